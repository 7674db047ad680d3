"""lanescribe.dumps: what was told as a text, the text read again, refused at its first wrong row, and mended."""

import unittest
from random import Random

from lanescribe.dumps import dump, mended, read_dump
from lanescribe.errors import BadDump
from lanescribe.lanes import Lane
from lanescribe.lookers import Looker

from tests.helpers import KINDS, write

NINES = 10 ** 30 - 1

# Rows as they stand, and what they tell.
READ = (
    ("", []),
    ("lost 1\n", [("lost", 1)]),
    (f"lost {NINES}\n", [("lost", NINES)]),
    ("event 0 0 a\n", [("event", 0, 0, "a", ())]),
    ("event 0 12 send 3 -4\n", [("event", 0, 12, "send", (3, -4))]),
    ("event 0 -5 abcdefgh 0 0 0 0 0 0 0\n", [("event", 0, -5, "abcdefgh", (0,) * 7)]),
    (f"event 0 {-NINES} a {NINES} {-NINES}\n", [("event", 0, -NINES, "a", (NINES, -NINES))]),
    ("event 0 0 event 1\nevent 1 0 lost 1\n", [("event", 0, 0, "event", (1,)), ("event", 1, 0, "lost", (1,))]),
    ("event 0 5 a\nevent 1 5 b\nevent 2 6 c\n",
     [("event", 0, 5, "a", ()), ("event", 1, 5, "b", ()), ("event", 2, 6, "c", ())]),
    ("lost 3\nevent 3 1 a\n", [("lost", 3), ("event", 3, 1, "a", ())]),
    ("event 0 1 a\nlost 2\nevent 3 1 a\n", [("event", 0, 1, "a", ()), ("lost", 2), ("event", 3, 1, "a", ())]),
    ("event 0 1 a\nlost 2\n", [("event", 0, 1, "a", ()), ("lost", 2)]),
    ("lost 1\nlost 2\nevent 3 1 a\n", [("lost", 1), ("lost", 2), ("event", 3, 1, "a", ())]),
    ("lost 1\nlost 2\nlost 3\n", [("lost", 1), ("lost", 2), ("lost", 3)]),
    (f"lost {NINES - 1}\nevent {NINES - 1} 0 a\nevent {NINES} 0 a\n",
     [("lost", NINES - 1), ("event", NINES - 1, 0, "a", ()), ("event", NINES, 0, "a", ())]),
    ("event 0 -9 a\nlost 1\nlost 1\nevent 3 -9 a\nevent 4 8 b\n",
     [("event", 0, -9, "a", ()), ("lost", 1), ("lost", 1), ("event", 3, -9, "a", ()), ("event", 4, 8, "b", ())]),
)

# Rows that are wrong wherever they stand.
NO_ROWS = (
    "", " ", "lost", "lost ", "lost 0", "lost -1", "lost -0", "lost 01", "lost +1", "lost x", "lost 1 ", "lost 1 2",
    " lost 1", "lost  1", "Lost 1", "LOST 1", "lost:1", "lost 1.0", "lost 1_0", "lost --1", "lost -",
    f"lost {NINES + 1}",
    "lose 1", "none", "1", "event", "event 2", "event 2 9", "event 2 9 ", "event  2 9 a", "event 2  9 a",
    "event 2 9  a",
    "event 2 9 a ", " event 2 9 a", "event 2 9 a  1", "event 2 9 a 1 ", "event 2 9 a b", "event 2 9 a 1 b",
    "event 2 9 a 01",
    "event 2 9 a -0", "event 2 9 a 00", "event 2 9 a +1", "event 2 9 a 1,2", "event 02 9 a", "event 2 09 a",
    "event 2 x a",
    "event x 9 a", "event 2 9 A", "event 2 9 abcdefghi", "event 2 9 a1", "event 2 9 1", "event 2 9 -", "Event 2 9 a",
    "events 2 9 a", "event -2 9 a", f"event 2 9 a {NINES + 1}", f"event 2 9 a {-NINES - 1}", f"event 2 {NINES + 1} a",
    "event 2 9 a" + " 0" * 9 + " 007", "event,2,9,a", "send 2 9 a", "event a 2 9", "event 2 9\ta", "event\t2 9 a",
    "('lost', 1)", "lost 1\tx", "event 2 9 a \t", "lost \u00b2", "event 2 9 a \u0663",
)

# Rows that are wrong behind these: an event at place 0 and the time 5, and one at place 1 and the time 7.
TWO = "event 0 5 a\nevent 1 7 b\n"
TWO_TOLD = [("event", 0, 5, "a", ()), ("event", 1, 7, "b", ())]
NOT_NEXT = ("event 0 7 a", "event 1 7 a", "event 3 7 a", "event 2 6 a", "event 2 -7 a", "event 2 0 a",
            f"event {NINES} 9 a")


class Writing(unittest.TestCase):
    def test_each(self):
        for text, told in READ:
            self.assertEqual(dump(told), text)

    def test_of_any_row_that_was_told(self):
        told = [("event", 5, 3, "a", (1,)), ("lost", 4), ("event", 10, 3, "b", ())]
        self.assertEqual(dump(told), "event 5 3 a 1\nlost 4\nevent 10 3 b\n")

    def test_nothing_handed_in_is_changed(self):
        told = [("lost", 4), ("event", 4, 3, "b", ())]
        dump(told)
        self.assertEqual(told, [("lost", 4), ("event", 4, 3, "b", ())])


class Reading(unittest.TestCase):
    def test_each(self):
        for text, told in READ:
            with self.subTest(text):
                self.assertEqual(read_dump(text), told)
                self.assertEqual(mended(text), told)
                self.assertIsInstance(read_dump(text), list)

    def test_each_list_is_a_new_one(self):
        for read in (read_dump, mended):
            read("lost 3\n").clear()
            self.assertEqual(read("lost 3\n"), [("lost", 3)])

    def refused(self, text, row, told):
        with self.subTest(text):
            with self.assertRaises(BadDump) as caught:
                read_dump(text)
            self.assertIs(type(caught.exception), BadDump)
            self.assertEqual((caught.exception.row, caught.exception.word), (row, "baddump"))
            self.assertEqual(mended(text), told)

    def test_rows_that_are_wrong_anywhere(self):
        for row in NO_ROWS:
            self.refused(row + "\n", 0, [])
            self.refused(TWO + row + "\n", 2, TWO_TOLD)
            self.refused(TWO + row + "\nevent 2 9 a\n", 2, TWO_TOLD)
            self.refused(TWO + "lost 2\nlost 3\n" + row + "\n", 4, TWO_TOLD + [("lost", 2), ("lost", 3)])

    def test_rows_that_are_wrong_where_they_stand(self):
        for row in NOT_NEXT:
            self.refused(TWO + row + "\n", 2, TWO_TOLD)
            self.refused(TWO + row + "\nevent 2 9 a\n", 2, TWO_TOLD)
        self.assertEqual(read_dump(TWO + "event 2 7 a\n"), TWO_TOLD + [("event", 2, 7, "a", ())])

    def test_the_first_place(self):
        for place in (1, 2, -1, NINES):
            self.refused(f"event {place} 0 a\n", 0, [])

    def test_just_the_places_that_lack(self):
        lost = TWO_TOLD + [("lost", 2)]
        for place in (0, 1, 2, 3, 5, 6):
            self.refused(TWO + f"lost 2\nevent {place} 9 a\n", 3, lost)
        self.assertEqual(read_dump(TWO + "lost 2\nevent 4 9 a\n"), lost + [("event", 4, 9, "a", ())])
        for place in (4, 5, 6, 8):
            self.refused(TWO + f"lost 2\nlost 3\nevent {place} 9 a\n", 4, lost + [("lost", 3)])
        self.assertEqual(len(read_dump(TWO + "lost 2\nlost 3\nevent 7 9 a\n")), 5)

    def test_times_do_not_fall_behind_lost_ones(self):
        self.refused(TWO + "lost 2\nevent 4 6 a\n", 3, TWO_TOLD + [("lost", 2)])
        self.assertEqual(read_dump(TWO + "lost 2\nevent 4 7 a\n")[-1], ("event", 4, 7, "a", ()))

    def test_a_line_feed_is_lacking(self):
        self.refused("lost 1", 0, [])
        self.refused(" ", 0, [])
        self.refused(TWO[:-1], 1, TWO_TOLD[:1])
        self.refused(TWO + "lost 1", 2, TWO_TOLD)
        self.refused(TWO + "x", 2, TWO_TOLD)

    def test_the_first_wrong_row_is_told(self):
        self.refused("event 0 5 a\nx\nevent 1 7 b", 1, TWO_TOLD[:1])
        self.refused("event 0 5 a\nevent 2 7 b\nevent 1 7 b\n", 1, TWO_TOLD[:1])
        self.refused("\n" + TWO, 0, [])
        self.refused(TWO + "\n\n", 2, TWO_TOLD)

    def test_line_feeds_alone(self):
        self.refused("\n", 0, [])
        self.refused("\n\n\n", 0, [])

    def test_a_long_text(self):
        text = "".join(f"event {place} {place} a\n" for place in range(400))
        self.assertEqual(len(read_dump(text)), 400)
        self.refused("1" * 8000, 0, [])
        self.refused("lost " + "1" * 7000 + "\n", 0, [])
        self.refused(text[:-1], 399, read_dump(text)[:-1])


class BothWays(unittest.TestCase):
    def test_what_lookers_were_told(self):
        chance = Random(22)
        for turn in range(60):
            lane = Lane(pages=2, room=5)
            looker = Looker(lane)
            told = []
            for number in range(40):
                kind = chance.choice(KINDS)
                write(lane, kind, number // 3 - 5, tuple(chance.randrange(10) for field in kind.fields))
                if chance.random() < 0.2:
                    told += looker.more(most=chance.randrange(5))
                if chance.random() < 0.2:
                    lane.take()
            told += looker.more()
            self.assertEqual(read_dump(dump(told)), told)

    def test_texts_that_are_spoilt(self):
        """A sign less, more or other somewhere: what is read is written as it stands, or a row is refused."""
        chance = Random(23)
        base = "event 0 1 a\nlost 2\nevent 3 1 send 10 -4\nlost 1\nlost 10\nevent 15 20 b 0\n"
        refused = 0
        for turn in range(3000):
            at = chance.randrange(len(base))
            new = chance.choice(("", chance.choice("0123456789- abelnostv\n"), base[at] + chance.choice("0- \na")))
            text = base[:at] + new + base[at + 1:]
            rows = text.split("\n")
            try:
                told = read_dump(text)
                self.assertEqual(dump(told), text)
                self.assertEqual(mended(text), told)
            except BadDump as error:
                refused += 1
                ahead = "".join(row + "\n" for row in rows[:error.row])
                self.assertEqual(read_dump(ahead), mended(text))
                self.assertTrue(text.startswith(ahead) and ahead != text)
                # With the wrong row behind them the rows ahead are no dump any more.
                with self.assertRaises(BadDump):
                    read_dump(text[:len(ahead) + len(rows[error.row]) + 1])
        self.assertTrue(1500 < refused < 2999, refused)


if __name__ == "__main__":
    unittest.main()
