"""lanescribe.tallies: which events are counted, by which keys, and what is dropped."""

import unittest

from lanescribe.errors import BadKeys, BadSize, BadTest, BadValue
from lanescribe.kinds import LIMIT, Kind
from lanescribe.tallies import MOST_KEYS, Tally

from tests.helpers import ALL, NO_TESTS, bushy, nots

SEND = Kind("send", (("size", 0, 99), ("to", 1, 4)))
GET = Kind("get", (("to", -9, 9), ("from", 0, 9), ("size", 0, 9)))
IDLE = Kind("idle")
SMALL = ("less", "size", 5)

NO_KEYS = (
    ("",), ("A",), ("size", ""), ("size", "to", "a b"), ("abcdefghi",), ("a1",), ("a\n",), ("size", "size"),
    ("a", "b", "c", "a"), ("a", "b", "b"), ("a", "b", "c", "d", "e"), ("a",) * 5, ("a",) * 400,
)


def shown(tally):
    return tally.table(), tally.dropped(), len(tally)


class Making(unittest.TestCase):
    def test_constant(self):
        self.assertEqual(MOST_KEYS, 16)

    def test_at_first(self):
        for keys in ((), ("size",), ("a", "b", "c", "d"), ("abcdefgh",)):
            self.assertEqual(shown(Tally(ALL, keys)), ([], 0, 0))

    def test_no_tests(self):
        for test in NO_TESTS + (nots(6), bushy(16)):
            with self.subTest(test), self.assertRaises(BadTest) as caught:
                Tally(test, ())
            self.assertEqual(caught.exception.word, "badtest")

    def test_no_keys(self):
        for keys in NO_KEYS:
            with self.subTest(keys), self.assertRaises(BadKeys) as caught:
                Tally(ALL, keys)
            self.assertEqual(caught.exception.word, "badkeys")

    def test_sizes(self):
        for most in (1, 2, 63, 64):
            self.assertEqual(len(Tally(ALL, (), most=most)), 0)
        for most in (0, -1, 65, 10 ** 29, -10 ** 29):
            with self.subTest(most), self.assertRaises(BadSize) as caught:
                Tally(ALL, (), most=most)
            self.assertEqual(caught.exception.word, "badsize")

    def test_the_first_refusal_comes(self):
        rows = (
            (BadTest, ("some",), ("A",), 0), (BadTest, ("some",), (), 65), (BadTest, (), ("a", "a"), 16),
            (BadKeys, ALL, ("A",), 0), (BadKeys, ALL, ("a",) * 5, 65), (BadSize, ALL, ("a",), 0),
        )
        for error, test, keys, most in rows:
            with self.subTest(error=error.__name__), self.assertRaises(error):
                Tally(test, keys, most=most)


class Noting(unittest.TestCase):
    def test_keys_are_the_values_of_the_fields(self):
        tally = Tally(ALL, ("to", "size"))
        for kind, values in ((SEND, (7, 2)), (GET, (2, 0, 7)), (SEND, (2, 2)), (GET, (-9, 1, 3))):
            self.assertIs(tally.note(kind, values), True)
        self.assertEqual(tally.table(), [((-9, 3), 1), ((2, 2), 1), ((2, 7), 2)])
        self.assertEqual(len(tally), 3)

    def test_no_fields(self):
        tally = Tally(ALL, (), most=1)
        for kind, values in ((SEND, (7, 2)), (IDLE, ()), (GET, (2, 0, 7))):
            self.assertIs(tally.note(kind, values), True)
        self.assertEqual(shown(tally), ([((), 3)], 0, 1))

    def test_four_fields(self):
        kind = Kind("k", tuple((name, 0, 9) for name in "abcd"))
        tally = Tally(ALL, ("d", "b", "a", "c"))
        tally.note(kind, (1, 2, 3, 4))
        self.assertEqual(tally.table(), [((4, 2, 1, 3), 1)])

    def test_only_what_passes_the_test(self):
        tally = Tally(SMALL, ("size",))
        told = [tally.note(SEND, (size, 1)) for size in (4, 5, 6, 4, 0)]
        self.assertEqual(told, [True, False, False, True, True])
        self.assertEqual(shown(tally), ([((0,), 1), ((4,), 2)], 0, 2))

    def test_a_test_of_kinds(self):
        tally = Tally(("or", ("is", "get"), ("is", "idle")), ())
        told = [tally.note(kind, kind.lowest()) for kind in (SEND, GET, IDLE)]
        self.assertEqual(told, [False, True, True])
        self.assertEqual(tally.table(), [((), 2)])

    def test_kinds_that_lack_a_field_are_passed_over(self):
        tally = Tally(ALL, ("size", "from"), most=1)
        told = [tally.note(kind, kind.lowest()) for kind in (SEND, IDLE, GET, SEND, IDLE)]
        self.assertEqual(told, [False, False, True, False, False])
        self.assertEqual(shown(tally), ([((0, 0), 1)], 0, 1))

    def test_rising(self):
        kind = Kind("k", (("a", -LIMIT, LIMIT), ("b", -LIMIT, LIMIT)))
        tally = Tally(ALL, ("a", "b"))
        keys = [(5, 1), (-LIMIT, 9), (LIMIT, -LIMIT), (5, -1), (-3, 0), (10, 0), (9, 0)]
        for key in keys:
            tally.note(kind, key)
        self.assertEqual(tally.table(), [(key, 1) for key in sorted(keys)])

    def test_values_are_refused(self):
        tally = Tally(SMALL, ("size",), most=1)
        tally.note(SEND, (1, 1))
        ahead = shown(tally)
        for kind, values, at in ((SEND, (100, 1), 0), (SEND, (50, 5), 1), (SEND, (1,), 1), (IDLE, (1,), 0)):
            with self.subTest(values), self.assertRaises(BadValue) as caught:
                tally.note(kind, values)
            self.assertEqual((caught.exception.at, caught.exception.word), (at, "badvalue"))
        self.assertEqual(shown(tally), ahead)


class MostKeys(unittest.TestCase):
    def test_as_many_keys_as_told(self):
        for most in (1, 3, 16, 64):
            tally = Tally(ALL, ("size",), most=most)
            told = [tally.note(SEND, (size, 1)) for size in range(most + 2)]
            self.assertEqual(told, [True] * most + [False] * 2)
            self.assertEqual(shown(tally), ([((size,), 1) for size in range(most)], 2, most))

    def test_as_many_as_when_nothing_is_told(self):
        tally = Tally(ALL, ("size",))
        for size in range(20):
            tally.note(SEND, (size, 1))
        self.assertEqual((len(tally), tally.dropped()), (16, 4))

    def test_keys_that_are_there_go_on(self):
        tally = Tally(ALL, ("size",), most=2)
        told = [tally.note(SEND, (size, 1)) for size in (8, 3, 5, 3, 5, 8, 1)]
        self.assertEqual(told, [True, True, False, True, False, True, False])
        self.assertEqual(shown(tally), ([((3,), 2), ((8,), 2)], 3, 2))

    def test_what_does_not_pass_is_not_dropped(self):
        tally = Tally(SMALL, ("size",), most=1)
        for size in (1, 7, 8):
            tally.note(SEND, (size, 1))
        tally.note(IDLE, ())
        self.assertEqual(tally.dropped(), 0)
        tally.note(SEND, (2, 1))
        self.assertEqual(tally.dropped(), 1)


class Apart(unittest.TestCase):
    def some_tally(self):
        tally = Tally(SMALL, ("size",), most=2)
        for size in (1, 2, 3, 1):
            tally.note(SEND, (size, 1))
        return tally

    def test_a_twin_has_all(self):
        tally = self.some_tally()
        twin = tally.twin()
        self.assertIsInstance(twin, Tally)
        self.assertEqual(shown(twin), shown(tally))
        for size in (1, 4, 7):
            self.assertIs(twin.note(SEND, (size, 1)), tally.note(SEND, (size, 1)))
        self.assertEqual(shown(twin), shown(tally))

    def test_each_goes_its_own_way(self):
        for first in (True, False):
            tally = self.some_tally()
            twin = tally.twin()
            one, other = (tally, twin) if first else (twin, tally)
            for size in (1, 2, 4):
                one.note(SEND, (size, 1))
            self.assertEqual(shown(other), shown(self.some_tally()))
            self.assertEqual(shown(one), ([((1,), 3), ((2,), 2)], 2, 2))

    def test_tallies_made_apart(self):
        one, other = Tally(ALL, ()), Tally(ALL, ())
        one.note(IDLE, ())
        self.assertEqual(shown(other), ([], 0, 0))

    def test_questions_change_nothing_and_lists_are_new(self):
        tally = self.some_tally()
        ahead = shown(tally)
        tally.table().clear()
        self.assertEqual(shown(tally), ahead)

    def test_nothing_handed_in_is_changed(self):
        kind = Kind("send", SEND.fields)
        Tally(ALL, ("size",)).note(kind, (1, 1))
        self.assertEqual(kind, SEND)


if __name__ == "__main__":
    unittest.main()
