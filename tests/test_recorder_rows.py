"""lanescribe.recorder over rows of deeds: taken back and done again, done as one, and by twins."""

import unittest
from random import Random

from lanescribe.errors import Broken, NoLane, NothingLeft
from lanescribe.kinds import LIMIT
from lanescribe.recorder import Recorder

from tests.helpers import ALL, BASE, SEND, PlainRecorder, call, recorder_of, shown_recorder, word_of

SMALL = ("less", "size", 5)
ONE = ("write", "a", "send", (1, 1))

# A row of deeds with each of them at least once, none refused.
ROW = BASE + (
    ("tally", "t", SMALL, ("to",)), ("tick", "a", 4), ONE, ONE, ONE, ("take", "a"), ("take", "a"), ("claim", "b",
    "send"),
    ("fill", "b", (7, 3)), ("halt", ("is", "send")), ("give", "b"), ("go",), ("halt", None), ("claim", "b", "send"),
    ("throw", "b"), ("sieve", "b", SMALL), ("write", "b", "send", (9, 1)), ("resize", "a", 3), ("stop",), ("go",),
    ("take", "b"), ("lane", "c", True), ("kind", "end", ()), ("write", "c", "end", ()), ("take", "c"), ("take", "c"),
)


class BackAndForth(unittest.TestCase):
    def test_the_row_has_each_deed(self):
        self.assertEqual(len({deed[0] for deed in ROW}), 15)

    def test_over_a_row_of_deeds(self):
        recorder = Recorder(pages=2, room=5)
        shown = [shown_recorder(recorder)]
        for deed in ROW:
            call(recorder, deed)
            shown.append(shown_recorder(recorder))
        for turn in range(2):
            for many in reversed(range(len(ROW))):
                self.assertEqual(recorder.undo(), ROW[many])
                self.assertEqual(shown_recorder(recorder), shown[many])
            with self.assertRaises(NothingLeft) as caught:
                recorder.undo()
            self.assertEqual(caught.exception.word, "nothingleft")
            self.assertEqual(shown_recorder(recorder), shown[0])
            for many, deed in enumerate(ROW):
                self.assertEqual(recorder.redo(), deed)
                self.assertEqual(shown_recorder(recorder), shown[many + 1])
            with self.assertRaises(NothingLeft) as caught:
                recorder.redo()
            self.assertEqual(caught.exception.word, "nothingleft")
            self.assertEqual(shown_recorder(recorder), shown[-1])

    def test_what_was_taken_can_be_taken_again(self):
        recorder = recorder_of(*(ONE,) * 3)
        told = [recorder.take("a") for turn in range(3)]
        self.assertEqual([thing[:2] for thing in told], [("lost", 1), ("event", 1), ("event", 2)])
        for turn in range(3):
            recorder.undo()
        self.assertEqual([recorder.take("a") for turn in range(3)], told)

    def test_what_was_lost_is_there_again(self):
        recorder = recorder_of(*(ONE,) * 3)
        self.assertEqual(recorder.counts("a"), (3, 0, 1, 0))
        recorder.undo()
        self.assertEqual((recorder.counts("a"), len(recorder)), ((2, 0, 0, 0), 2))

    def test_a_held_page_is_held_no_more(self):
        recorder = recorder_of(ONE, ("take", "a"))
        recorder.undo()
        for turn in range(2):
            recorder.do(ONE)
        # With its page held the first event would not be lost.
        self.assertEqual((recorder.counts("a"), recorder.look("a")[0]), ((3, 0, 1, 0), ("lost", 1)))

    def test_tickets_and_clocks_go_back(self):
        recorder = recorder_of(("claim", "a", "send"), ("throw", "a"), ("tick", "a", 9))
        for turn in range(3):
            recorder.undo()
        self.assertEqual((recorder.claim("a", "idle"), recorder.now("a")), (1, 0))

    def test_missed_claims_go_back(self):
        recorder = recorder_of(*(("write", "b", "send", (1, 1)),) * 3)
        self.assertEqual(recorder.counts("b"), (2, 0, 0, 1))
        self.assertEqual(recorder.undo(), ("write", "b", "send", (1, 1)))
        self.assertEqual(recorder.counts("b"), (2, 0, 0, 0))

    def test_a_halt_that_stopped_goes_back(self):
        recorder = recorder_of(("halt", ALL), ONE)
        self.assertIs(recorder.stopped(), True)
        recorder.undo()
        self.assertIs(recorder.stopped(), False)
        recorder.redo()
        self.assertIs(recorder.stopped(), True)

    def test_deeds_that_change_nothing_stand_too(self):
        recorder = recorder_of()
        for deed in (("take", "a"), ("go",), ("tick", "a", 0), ("halt", None)):
            recorder.do(deed)
            self.assertEqual(recorder.done()[-1], deed)
            self.assertEqual(recorder.undo(), deed)

    def test_a_deed_that_is_done_lets_go_what_could_be_done_again(self):
        for deed in (("tick", "a", 0), ("take", "a"), ("stop",), ONE, ("whole", ())):
            recorder = recorder_of(ONE, ONE)
            recorder.undo()
            recorder.do(deed) if deed[0] != "whole" else recorder.whole([])
            with self.assertRaises(NothingLeft):
                recorder.redo()
            self.assertEqual(recorder.done()[-2:], [ONE, deed])

    def test_a_refused_one_does_not(self):
        recorder = recorder_of(ONE, ("take", "a"))
        recorder.undo()
        recorder.undo()
        for act in (lambda: recorder.take("x"), lambda: recorder.do(("give", "x")), lambda: recorder.look("x")):
            with self.assertRaises(NoLane):
                act()
        with self.assertRaises(Broken):
            recorder.whole([("take", "a"), ("take", "x")])
        self.assertEqual([recorder.redo(), recorder.redo()], [ONE, ("take", "a")])
        with self.assertRaises(NothingLeft):
            recorder.redo()

    def test_a_new_deed_behind_what_was_taken_back(self):
        recorder = recorder_of(("tick", "a", 1), ("tick", "a", 2), ("tick", "a", 4))
        recorder.undo()
        recorder.undo()
        recorder.tick("a", 8)
        self.assertEqual(recorder.now("a"), 9)
        recorder.undo()
        recorder.undo()
        self.assertEqual((recorder.now("a"), recorder.redo(), recorder.redo()), (0, ("tick", "a", 1), ("tick", "a", 8)))


class Whole(unittest.TestCase):
    def test_of_no_deeds(self):
        recorder = recorder_of()
        ahead = shown_recorder(recorder)
        self.assertEqual(recorder.whole([]), [])
        self.assertEqual(recorder.done(), list(BASE) + [("whole", ())])
        self.assertEqual(recorder.undo(), ("whole", ()))
        self.assertEqual(shown_recorder(recorder), ahead)
        self.assertEqual(recorder.redo(), ("whole", ()))

    def test_it_tells_what_its_deeds_tell(self):
        recorder, other = Recorder(pages=2, room=5), Recorder(pages=2, room=5)
        told = [other.do(deed) for deed in ROW]
        self.assertEqual(recorder.whole(list(ROW)), told)
        self.assertEqual(shown_recorder(recorder)[:-2], shown_recorder(other)[:-2])
        self.assertEqual((recorder.done(), len(recorder)), ([("whole", ROW)], len(other)))
        self.assertEqual(recorder.undo(), ("whole", ROW))
        self.assertEqual(shown_recorder(recorder), shown_recorder(Recorder()))
        self.assertEqual(recorder.redo(), ("whole", ROW))
        self.assertEqual(shown_recorder(recorder)[:-2], shown_recorder(other)[:-2])

    def test_several_behind_one_another(self):
        recorder = recorder_of()
        rows = ([ONE, ("take", "a")], [], [("take", "a"), ONE, ("claim", "a", "idle")], [("give", "a")])
        shown = []
        for row in rows:
            shown.append(shown_recorder(recorder))
            recorder.whole(row)
        for row in reversed(rows):
            self.assertEqual(recorder.undo(), ("whole", tuple(row)))
            self.assertEqual(shown_recorder(recorder), shown.pop())

    def test_refused_at_each_step(self):
        for step in range(len(ROW) + 1):
            recorder = Recorder(pages=2, room=5)
            recorder.kind("first")
            recorder.kind("second")
            recorder.undo()
            ahead = shown_recorder(recorder)
            deeds = list(ROW[:step]) + [("tick", "x", 1)] + list(ROW[step:])
            kept = list(deeds)
            with self.assertRaises(Broken) as caught:
                recorder.whole(deeds)
            self.assertEqual((caught.exception.step, caught.exception.why), (step, "nolane"))
            self.assertEqual((shown_recorder(recorder), deeds), (ahead, kept))
            self.assertEqual(recorder.redo(), ("kind", "second", ()))

    def test_the_first_refused_one_is_told(self):
        recorder = recorder_of()
        with self.assertRaises(Broken) as caught:
            recorder.whole([ONE, ("tick", "a", -1), ("take", "x")])
        self.assertEqual((caught.exception.step, caught.exception.why), (1, "badtime"))

    def test_deeds_of_a_row_see_those_ahead_of_them(self):
        recorder = Recorder()
        deeds = [("kind", "k", ()), ("lane", "l", True), ("claim", "l", "k"), ("give", "l"), ("take", "l"), ("stop",)]
        self.assertEqual(recorder.whole(deeds), [None, None, 1, True, ("event", 0, 0, "k", ()), None])
        with self.assertRaises(Broken) as caught:
            recorder.whole([("go",), ("claim", "l", "k"), ("stop",), ("claim", "l", "k")])
        self.assertEqual((caught.exception.step, caught.exception.why), (3, "stopped"))
        self.assertEqual((recorder.stopped(), recorder.pending("l")), (True, []))

    def test_done_again_out_of_what_stands(self):
        recorder = recorder_of(ONE)
        recorder.whole([ONE, ("take", "a")])
        other = Recorder(pages=2, room=5)
        for deed in recorder.done():
            other.do(deed)
        self.assertEqual(shown_recorder(other), shown_recorder(recorder))


class Twins(unittest.TestCase):
    def some_recorder(self):
        recorder = Recorder(pages=2, room=5)
        for deed in ROW:
            recorder.do(deed)
        for turn in range(12):
            recorder.undo()
        return recorder

    def test_a_twin_has_all(self):
        recorder = self.some_recorder()
        twin = recorder.twin()
        self.assertIsInstance(twin, Recorder)
        self.assertIsNot(twin, recorder)
        self.assertEqual(shown_recorder(twin), shown_recorder(recorder))

    def test_what_stands_and_what_could_be_done_again(self):
        recorder = self.some_recorder()
        for word, many in (("redo", 12), ("undo", len(ROW))):
            twin = recorder.twin()
            other = recorder.twin()
            for turn in range(many):
                self.assertEqual(getattr(twin, word)(), getattr(other, word)())
                self.assertEqual(shown_recorder(twin), shown_recorder(other))
            with self.assertRaises(NothingLeft):
                getattr(twin, word)()
            recorder = twin

    def test_each_goes_its_own_way(self):
        ways = (
            lambda one: one.undo(), lambda one: one.redo(), lambda one: one.kind("new"), lambda one: one.tick("a", 5),
            lambda one: one.write("a", "send", (1, 1)), lambda one: one.take("a"), lambda one: one.stop(),
            lambda one: one.claim("a", "idle"), lambda one: one.halt(SMALL), lambda one: one.sieve("a", SMALL),
            lambda one: one.whole([("tick", "b", 3), ("take", "a"), ("resize", "b", 7)]),
        )
        for first in (True, False):
            for way in ways:
                recorder = self.some_recorder()
                twin = recorder.twin()
                one, other = (recorder, twin) if first else (twin, recorder)
                ahead = shown_recorder(other)
                way(one)
                self.assertNotEqual(shown_recorder(one), ahead)
                self.assertEqual(shown_recorder(other), ahead)
                self.assertEqual(other.redo(), ROW[-12])
                other.undo()
                way(other)
                self.assertEqual(shown_recorder(one), shown_recorder(other))

    def test_the_sizes_of_lanes_to_come(self):
        twin = Recorder(pages=3, room=6).twin()
        twin.kind("idle")
        twin.lane("a", over=False)
        for turn in range(20):
            twin.write("a", "idle", ())
        self.assertEqual(twin.counts("a"), (18, 0, 0, 2))

    def test_a_twin_of_a_twin(self):
        recorder = self.some_recorder()
        ahead = shown_recorder(recorder)
        second = recorder.twin().twin()
        while second.done():
            second.undo()
        self.assertEqual(shown_recorder(recorder), ahead)


class ByChance(unittest.TestCase):
    """Long rows of deeds, each answer compared with that of a plain recorder that does all anew."""

    tests = (ALL, SMALL, ("is", "send"), ("not", ("same", "to", 2)), ("or", ("is", "idle"), SMALL), ("some",), ())
    names = ("a", "b", "c", "d", "e", "f", "g", "A")
    words = (
        ("write",) * 14 + ("claim",) * 10 + ("give",) * 6 + ("fill", "take") * 4 + ("throw", "tick", "go") * 3
        + ("kind", "lane", "resize", "sieve", "tally", "halt", "stop")
    )

    def some_deed(self, chance):
        word = chance.choice(self.words)
        lane = chance.choice(("a",) * 9 + ("b",) * 9 + ("c", "x"))
        kind = chance.choice(("send",) * 8 + ("idle",) * 4 + ("k",))
        values = () if kind == "idle" else (chance.choice((0, 3, 6, 9, 9, 10)), chance.randrange(1, 5))
        values = values[:1] if chance.random() < 0.05 else values
        return (word,) + {
            "kind": (chance.choice(self.names), SEND[1]), "lane": (chance.choice(self.names), chance.random() < 0.5),
            "tick": (lane, chance.choice((0, 1, 5, LIMIT, -1))), "claim": (lane, kind), "fill": (lane, values),
            "write": (lane, kind, values), "resize": (lane, chance.choice((1, 2, 3, 4))),
            "sieve": (lane, chance.choice(self.tests)), "halt": (chance.choice(self.tests + (None, None)),),
            "tally": (chance.choice("tuvwxT"), chance.choice(self.tests), chance.choice(((), ("to",), ("size", "to")))),
            "stop": (), "go": (),
        }.get(word, (lane,))

    def walk(self, seed, many):
        chance = Random(seed)
        recorder, plain = Recorder(pages=2, room=5), PlainRecorder(2, 5)
        for deed in BASE:
            recorder.do(deed)
            plain.do(deed)
        for turn in range(many):
            lot = chance.random()
            if lot < 0.08:
                back = min(chance.randrange(5), len(plain.deeds) - len(BASE))
                for word in ("undo",) * back + ("redo",) * chance.randrange(back + 2):
                    self.compare(recorder, plain, getattr(recorder, word), getattr(plain, word))
            elif lot < 0.18:
                row = tuple(self.some_deed(chance) for number in range(chance.randrange(5)))
                self.compare(recorder, plain, lambda: recorder.whole(list(row)), lambda: plain.do(("whole", row)))
            else:
                deed = self.some_deed(chance)
                self.compare(recorder, plain, lambda: call(recorder, deed), lambda: plain.do(deed))
            if chance.random() < 0.05:
                recorder = recorder.twin()

    def compare(self, recorder, plain, act, other):
        self.assertEqual(word_of(act), word_of(other), plain.deeds)
        self.assertEqual(shown_recorder(recorder), plain.shown(), plain.deeds)

    def test_rows_of_deeds(self):
        for seed in range(40):
            self.walk(seed, 100)


if __name__ == "__main__":
    unittest.main()
