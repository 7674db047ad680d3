"""lanescribe.recorder: each deed, told and refused, by its method, by do and within whole; and all questions."""

import unittest

from lanescribe.errors import (
    BadBounds, BadKeys, BadName, BadSize, BadTest, BadTime, BadValue, Broken, Busy, Full, Missing, NoKind, NoLane,
    NoTally, NoTicket, NothingLeft, Stopped, Taken,
)
from lanescribe.kinds import LIMIT, Kind
from lanescribe.lanes import Lane
from lanescribe.lookers import Looker
from lanescribe.recorder import Recorder

from tests.helpers import ALL, BASE, NO_TESTS, SEND, RingCase, bushy, call, nots, recorder_of, shown_recorder

SMALL = ("less", "size", 5)
NO_TEST = ("some",)
ONE = ("write", "a", "send", (1, 1))
EIGHT_KINDS = tuple(("kind", name, ()) for name in ("c", "d", "e", "f", "g", "h"))
SIX_LANES = tuple(("lane", name, True) for name in ("c", "d", "e", "f"))
FOUR_TALLIES = tuple(("tally", name, ALL, ()) for name in ("t", "u", "v", "w"))
# A page has room for one event of the kind send: both pages of the lane b are full, and the next one is missed.
FULL_B = (("write", "b", "send", (1, 1)), ("write", "b", "send", (2, 1)))

# Deeds done beyond BASE, a deed, and what it tells.
TOLD = (
    ((), ("kind", "x", ()), None),
    ((), ("kind", "abcdefgh", (("size", 0, 9), ("b", -LIMIT, LIMIT), ("c", 0, 0), ("d", 0, 0))), None),
    (EIGHT_KINDS[:5], ("kind", "x", ()), None),
    ((), ("lane", "send", True), None),
    ((), ("lane", "c", False), None),
    (SIX_LANES[:3], ("lane", "x", True), None),
    ((), ("tick", "a", 1), None),
    ((), ("tick", "b", 0), None),
    ((), ("tick", "a", LIMIT), None),
    ((), ("claim", "a", "send"), 1),
    ((ONE, ("claim", "a", "idle")), ("claim", "a", "idle"), 3),
    (FULL_B, ("claim", "b", "send"), None),
    (FULL_B, ("claim", "b", "idle"), 3),
    ((("claim", "a", "send"),), ("fill", "a", (9, 4)), None),
    ((("claim", "a", "send"), ("claim", "a", "idle")), ("fill", "a", ()), None),
    ((("claim", "a", "send"), ("stop",)), ("fill", "a", (9, 4)), None),
    ((("claim", "a", "send"),), ("give", "a"), True),
    ((("claim", "a", "send"), ("stop",)), ("give", "a"), True),
    ((("sieve", "a", ("not", ALL)), ("claim", "a", "send")), ("give", "a"), False),
    ((("claim", "a", "send"),), ("throw", "a"), None),
    ((("claim", "a", "send"), ("stop",)), ("throw", "a"), None),
    ((), ONE, True),
    ((("sieve", "a", SMALL),), ("write", "a", "send", (5, 1)), False),
    ((("sieve", "a", SMALL),), ("write", "a", "send", (4, 1)), True),
    (FULL_B, ("write", "b", "send", (1, 1)), None),
    ((), ("write", "b", "idle", ()), True),
    ((), ("take", "a"), None),
    ((("tick", "a", 7), ONE), ("take", "a"), ("event", 0, 7, "send", (1, 1))),
    ((ONE,) * 4, ("take", "a"), ("lost", 2)),
    ((ONE,) * 4 + (("take", "a"),), ("take", "a"), ("event", 2, 0, "send", (1, 1))),
    ((ONE, ("stop",)), ("take", "a"), ("event", 0, 0, "send", (1, 1))),
    ((), ("resize", "a", 2), None),
    ((), ("resize", "b", 16), None),
    ((("resize", "a", 3),) + (ONE,) * 3, ("resize", "a", 2), None),
    ((), ("sieve", "a", SMALL), None),
    ((("sieve", "a", SMALL),), ("sieve", "a", ALL), None),
    ((), ("tally", "t", ALL, ()), None),
    ((), ("tally", "a", SMALL, ("to", "size", "none", "nor")), None),
    (FOUR_TALLIES[:3], ("tally", "x", ALL, ("to",)), None),
    ((), ("halt", SMALL), None),
    ((("halt", SMALL),), ("halt", None), None),
    ((), ("halt", None), None),
    ((), ("stop",), None),
    ((("stop",),), ("stop",), None),
    ((("stop",),), ("go",), None),
    ((), ("go",), None),
)

# Deeds done beyond BASE, a deed, and its refusal; where several are due the one named first comes.
REFUSED = (
    ((), ("kind", "", ()), BadName),
    ((), ("kind", "Send", ()), BadName),
    ((), ("kind", "abcdefghi", ()), BadName),
    (EIGHT_KINDS, ("kind", "X", ()), BadName),
    ((), ("kind", "A", (("b", 1, 0),)), BadName),
    ((), ("kind", "send", ()), Taken),
    (EIGHT_KINDS, ("kind", "idle", ()), Taken),
    ((), ("kind", "idle", (("a", 1, 0),)), Taken),
    (EIGHT_KINDS, ("kind", "x", ()), Full),
    (EIGHT_KINDS, ("kind", "x", (("A", 1, 0),)), Full),
    ((), ("kind", "x", tuple((name, 1, 0) for name in "ABCDE")), Full),
    ((), ("kind", "x", (("A", 1, 0),)), BadName),
    ((), ("kind", "x", (("a", 0, 1), ("a", 1, 0))), Taken),
    ((), ("kind", "x", (("a", 1, 0), ("a", 0, 1))), BadBounds),
    ((), ("kind", "x", (("a", 0, LIMIT + 1),)), BadBounds),
    ((), ("lane", "", True), BadName),
    ((), ("lane", "a b", False), BadName),
    (SIX_LANES, ("lane", "X", True), BadName),
    ((), ("lane", "a", False), Taken),
    (SIX_LANES, ("lane", "b", True), Taken),
    (SIX_LANES, ("lane", "x", True), Full),
    ((), ("tick", "x", 1), NoLane),
    ((), ("tick", "X", -1), NoLane),
    ((), ("tick", "a", -1), BadTime),
    ((), ("tick", "a", LIMIT + 1), BadTime),
    ((), ("tick", "a", 10 ** 29), BadTime),
    ((("stop",),), ("claim", "x", "x"), NoLane),
    ((), ("claim", "send", "send"), NoLane),
    ((("stop",),), ("claim", "a", "x"), NoKind),
    ((), ("claim", "a", "a"), NoKind),
    ((("stop",),), ("claim", "a", "send"), Stopped),
    (FULL_B + (("stop",),), ("claim", "b", "send"), Stopped),
    ((), ("fill", "x", (1, 1)), NoLane),
    ((), ("fill", "a", (1, 1)), NoTicket),
    ((("claim", "b", "send"),), ("fill", "a", (99,)), NoTicket),
    (FULL_B + (("claim", "b", "send"),), ("fill", "b", (1, 1)), NoTicket),
    ((("claim", "a", "send"),), ("fill", "x", (99,)), NoLane),
    ((("claim", "a", "send"),), ("fill", "a", (10, 1)), BadValue),
    ((("claim", "a", "send"), ("claim", "a", "idle")), ("fill", "a", (1, 1)), BadValue),
    ((), ("give", "x"), NoLane),
    ((ONE,), ("give", "a"), NoTicket),
    ((("claim", "b", "send"),), ("give", "a"), NoTicket),
    ((), ("throw", "x"), NoLane),
    ((ONE,), ("throw", "a"), NoTicket),
    ((("claim", "b", "send"), ("give", "b")), ("throw", "b"), NoTicket),
    ((("stop",),), ("write", "x", "x", (99,)), NoLane),
    ((("stop",),), ("write", "a", "x", (99,)), NoKind),
    ((("stop",),), ("write", "a", "send", (99,)), Stopped),
    (FULL_B + (("stop",),), ("write", "b", "send", (1, 1)), Stopped),
    ((), ("write", "a", "send", (10, 1)), BadValue),
    ((), ("write", "a", "send", (1,)), BadValue),
    ((("sieve", "a", ("not", ALL)),), ("write", "a", "idle", (0,)), BadValue),
    ((("claim", "a", "send"),), ("write", "a", "idle", (1, 1)), BadValue),
    ((), ("take", "x"), NoLane),
    ((), ("resize", "x", 1), NoLane),
    ((), ("resize", "a", 1), BadSize),
    ((), ("resize", "a", 17), BadSize),
    ((("resize", "a", 3), ("claim", "a", "send")) + (ONE,) * 2, ("resize", "a", 1), BadSize),
    ((("resize", "a", 3), ("claim", "a", "send")) + (ONE,) * 2, ("resize", "a", 2), Busy),
    ((), ("sieve", "x", NO_TEST), NoLane),
    ((), ("sieve", "a", NO_TEST), BadTest),
    ((), ("sieve", "a", ()), BadTest),
    ((), ("sieve", "a", nots(6)), BadTest),
    (FOUR_TALLIES, ("tally", "T", NO_TEST, ("A",)), BadName),
    (FOUR_TALLIES, ("tally", "t", NO_TEST, ("A",)), Taken),
    (FOUR_TALLIES, ("tally", "x", NO_TEST, ("A",)), BadTest),
    (FOUR_TALLIES, ("tally", "x", ALL, ("A",)), BadKeys),
    (FOUR_TALLIES, ("tally", "x", ALL, ("b",)), Full),
    (FOUR_TALLIES[:1], ("tally", "t", ALL, ()), Taken),
    ((), ("tally", "", ALL, ()), BadName),
    ((), ("tally", "t", bushy(16), ()), BadTest),
    ((), ("tally", "t", ALL, ("a", "a")), BadKeys),
    ((), ("tally", "t", ALL, ("a", "b", "c", "d", "e")), BadKeys),
    ((), ("halt", NO_TEST), BadTest),
    ((), ("halt", ()), BadTest),
)


class EachDeed(unittest.TestCase):
    def test_each_deed_is_told_and_refused_here(self):
        words = {
            "kind", "lane", "tick", "claim", "fill", "give", "throw", "write", "take", "resize", "sieve", "tally",
            "halt", "stop", "go",
        }
        self.assertEqual({deed[0] for ahead, deed, told in TOLD}, words)
        self.assertEqual({deed[0] for ahead, deed, error in REFUSED}, words - {"stop", "go"})

    def test_told(self):
        for ahead, deed, told in TOLD:
            for act in (call, Recorder.do):
                with self.subTest(deed=deed, ahead=ahead):
                    recorder = recorder_of(*ahead)
                    answer = act(recorder, deed)
                    self.assertEqual(answer, told)
                    self.assertIs(type(answer), type(told))
                    self.assertEqual(recorder.done(), list(BASE + ahead) + [deed])

    def test_by_method_by_do_and_within_whole_alike(self):
        for ahead, deed, told in TOLD:
            with self.subTest(deed=deed, ahead=ahead):
                one, other, third = (recorder_of(*ahead) for turn in range(3))
                call(one, deed)
                other.do(deed)
                self.assertEqual(third.whole([deed]), [told])
                self.assertEqual(shown_recorder(one), shown_recorder(other))
                self.assertEqual(shown_recorder(one)[:-2], shown_recorder(third)[:-2])
                self.assertEqual(len(one), len(third))
                self.assertEqual(third.done(), list(BASE + ahead) + [("whole", (deed,))])

    def test_taken_back_and_done_again(self):
        for ahead, deed, told in TOLD:
            for done in (deed, ("whole", (deed,)), ("whole", (deed, ("tick", "a", 3), ("take", "a")))):
                with self.subTest(deed=done, ahead=ahead):
                    recorder = recorder_of(*ahead)
                    first = shown_recorder(recorder)
                    recorder.whole(list(done[1])) if done[0] == "whole" else recorder.do(done)
                    second = shown_recorder(recorder)
                    for turn in range(2):
                        self.assertEqual(recorder.undo(), done)
                        self.assertEqual(shown_recorder(recorder), first)
                        self.assertEqual(recorder.redo(), done)
                        self.assertEqual(shown_recorder(recorder), second)
                    # What comes later goes as if nothing had been taken back.
                    fresh = recorder_of(*ahead)
                    fresh.whole(list(done[1])) if done[0] == "whole" else fresh.do(done)
                    for later in (("go",), ("claim", "a", "send"), ("take", "a"), ("write", "b", "idle", ())):
                        self.assertEqual(recorder.do(later), fresh.do(later))
                    self.assertEqual(shown_recorder(recorder), shown_recorder(fresh))

    def test_refused(self):
        for ahead, deed, error in REFUSED:
            for act in (call, Recorder.do):
                with self.subTest(deed=deed, ahead=ahead):
                    recorder = recorder_of(*ahead)
                    recorder.tick("a", 5)
                    recorder.undo()
                    kept = shown_recorder(recorder)
                    with self.assertRaises(error) as caught:
                        act(recorder, deed)
                    self.assertIs(type(caught.exception), error)
                    self.assertEqual(caught.exception.word, error.__name__.lower())
                    self.assertEqual(shown_recorder(recorder), kept)
                    self.assertEqual(recorder.redo(), ("tick", "a", 5))

    def test_refused_within_whole(self):
        for ahead, deed, error in REFUSED:
            for many in (0, 1, 3):
                with self.subTest(deed=deed, ahead=ahead, many=many):
                    recorder = recorder_of(*ahead)
                    recorder.tick("a", 5)
                    recorder.undo()
                    kept = shown_recorder(recorder)
                    with self.assertRaises(Broken) as caught:
                        recorder.whole([("take", "b")] * many + [deed])
                    broken = caught.exception
                    self.assertEqual((broken.step, broken.why, broken.word), (many, error.__name__.lower(), "broken"))
                    self.assertEqual(shown_recorder(recorder), kept)
                    self.assertEqual(recorder.redo(), ("tick", "a", 5))

    def test_where_values_are_wrong(self):
        recorder = recorder_of(("claim", "a", "send"))
        for values, at in (((10, 1), 0), ((1, 0), 1), ((1,), 1), ((1, 1, 1), 2), ((), 0)):
            for deed in (("fill", "a", values), ("write", "b", "send", values)):
                with self.assertRaises(BadValue) as caught:
                    recorder.do(deed)
                self.assertEqual(caught.exception.at, at)

    def test_each_tuple_that_is_no_test(self):
        recorder = recorder_of()
        for test in NO_TESTS:
            for deed in (("sieve", "a", test), ("tally", "t", test, ()), ("halt", test)):
                with self.subTest(deed), self.assertRaises(BadTest):
                    recorder.do(deed)


class Making(unittest.TestCase):
    def test_the_beginning(self):
        recorder = Recorder()
        self.assertEqual(shown_recorder(recorder), ([], [], [], [], [], [], False, None, [], 0))
        for act in (recorder.undo, recorder.redo):
            with self.assertRaises(NothingLeft):
                act()

    def test_sizes(self):
        for pages, room in ((2, 5), (16, 12), (3, 7)):
            recorder = Recorder(pages=pages, room=room)
            recorder.kind("idle")
            for name in ("a", "b"):
                recorder.lane(name, over=False)
                written = 0
                while recorder.write(name, "idle", ()) is not None:
                    written += 1
                self.assertEqual(written, pages * room)

    def test_sizes_when_nothing_is_told(self):
        recorder = Recorder()
        recorder.kind("idle")
        recorder.lane("a")
        for turn in range(33):
            recorder.write("a", "idle", ())
        self.assertEqual(recorder.counts("a"), (33, 0, 8, 0))

    def test_sizes_that_are_not(self):
        for pages, room in ((1, 8), (17, 8), (4, 4), (4, 13), (0, 0), (10 ** 29, 8), (4, -10 ** 29)):
            with self.subTest(pages=pages, room=room), self.assertRaises(BadSize) as caught:
                Recorder(pages=pages, room=room)
            self.assertEqual(caught.exception.word, "badsize")

    def test_recorders_made_apart(self):
        one, other = Recorder(), Recorder()
        for deed in BASE + (ONE,):
            one.do(deed)
        self.assertEqual(shown_recorder(other), shown_recorder(Recorder()))

    def test_what_has_a_default_left_out(self):
        recorder = recorder_of()
        recorder.kind("x")
        recorder.lane("c")
        recorder.tick("a")
        recorder.tally("t", SMALL)
        recorder.halt(SMALL)
        recorder.halt()
        self.assertEqual(recorder.done()[len(BASE):], [
            ("kind", "x", ()), ("lane", "c", True), ("tick", "a", 1), ("tally", "t", SMALL, ()), ("halt", SMALL),
            ("halt", None),
        ])
        self.assertEqual((recorder.now("a"), recorder.halted_by()), (1, None))
        for turn in range(3):
            self.assertIs(recorder.write("c", "send", (1, 1)), True)
        self.assertEqual((recorder.counts("c"), recorder.table("t")), ((3, 0, 1, 0), [((), 3)]))

    def test_what_has_a_default_handed_in_by_its_name(self):
        recorder = Recorder()
        recorder.kind(name="send", fields=SEND[1])
        recorder.lane(name="a", over=False)
        recorder.tick(lane="a", steps=4)
        recorder.tally(name="t", test=ALL, keys=("to",))
        recorder.halt(test=SMALL)
        self.assertEqual(recorder.done(), [
            ("kind",) + SEND, ("lane", "a", False), ("tick", "a", 4), ("tally", "t", ALL, ("to",)), ("halt", SMALL),
        ])

    def test_what_stands_behind_the_star(self):
        recorder = Recorder()
        with self.assertRaises(TypeError):
            recorder.lane("a", False)
        with self.assertRaises(TypeError):
            recorder.tally("t", ALL, ("to",))


class Writing(unittest.TestCase):
    def test_the_clock_is_the_time_of_claims(self):
        recorder = recorder_of(room=8)
        for steps in (0, 3, 0, LIMIT, LIMIT):
            recorder.tick("a", steps)
            recorder.write("a", "idle", ())
        self.assertEqual([event[2] for event in recorder.look("a")], [0, 3, 3, 3 + LIMIT, 3 + 2 * LIMIT])
        self.assertEqual((recorder.now("a"), recorder.now("b")), (3 + 2 * LIMIT, 0))

    def test_an_event_has_the_time_of_its_claim(self):
        recorder = recorder_of(("tick", "a", 2), ("claim", "a", "send"), ("tick", "a", 9))
        recorder.fill("a", (3, 2))
        recorder.give("a")
        self.assertEqual(recorder.look("a"), [("event", 0, 2, "send", (3, 2))])

    def test_the_claim_that_was_made_last(self):
        recorder = recorder_of(("claim", "a", "send"), ("claim", "a", "idle"), ("claim", "b", "send"))
        self.assertEqual((recorder.pending("a"), recorder.pending("b")), ([1, 2], [1]))
        recorder.fill("a", ())
        self.assertIs(recorder.give("a"), True)
        self.assertEqual((recorder.look("a"), len(recorder)), ([], 0))
        recorder.fill("a", (7, 2))
        self.assertIs(recorder.give("a"), True)
        self.assertEqual(recorder.look("a"), [("event", 0, 0, "send", (7, 2)), ("event", 1, 0, "idle", ())])
        self.assertEqual((recorder.pending("a"), recorder.pending("b"), len(recorder)), ([], [1], 2))

    def test_one_writer_breaks_in_upon_another(self):
        recorder = recorder_of(("claim", "a", "send"), ("write", "a", "idle", ()))
        self.assertEqual((recorder.pending("a"), recorder.look("a")), ([1], []))
        recorder.throw("a")
        self.assertEqual(recorder.look("a"), [("event", 0, 0, "idle", ())])
        self.assertEqual(recorder.counts("a"), (1, 1, 0, 0))

    def test_lowest_values_where_nothing_is_filled(self):
        recorder = recorder_of(("claim", "a", "send"), ("give", "a"))
        self.assertEqual(recorder.look("a"), [("event", 0, 0, "send", (0, 1))])

    def test_a_missed_claim_of_a_going_recorder(self):
        recorder = recorder_of(*FULL_B)
        self.assertIsNone(recorder.claim("b", "send"))
        self.assertEqual((recorder.counts("b"), recorder.pending("b")), ((2, 0, 0, 1), []))
        self.assertIsNone(recorder.write("b", "send", (1, 1)))
        self.assertEqual(recorder.counts("b"), (2, 0, 0, 2))
        self.assertEqual(recorder.claim("b", "idle"), 5)

    def test_a_missed_claim_of_a_stopped_recorder(self):
        recorder = recorder_of(*FULL_B, ("stop",))
        for act in (lambda: recorder.claim("b", "send"), lambda: recorder.write("b", "send", (1, 1))):
            with self.assertRaises(Stopped):
                act()
        self.assertEqual(recorder.counts("b"), (2, 0, 0, 0))
        recorder.go()
        self.assertIsNone(recorder.claim("b", "send"))
        self.assertEqual(recorder.counts("b"), (2, 0, 0, 1))

    def test_values_of_what_is_missed_are_not_looked_at(self):
        recorder = recorder_of(*FULL_B, ("claim", "b", "idle"))
        self.assertIsNone(recorder.write("b", "send", (99,)))
        self.assertEqual((recorder.counts("b"), recorder.pending("b")), ((2, 0, 0, 1), [3]))

    def test_lanes_that_write_over_and_that_miss(self):
        recorder = recorder_of()
        told = [[recorder.write(lane, "send", (size, 1)) for size in range(4)] for lane in ("a", "b")]
        self.assertEqual(told, [[True] * 4, [True, True, None, None]])
        self.assertEqual((recorder.counts("a"), recorder.counts("b")), ((4, 0, 2, 0), (2, 0, 0, 2)))

    def test_a_refused_write_claims_nothing(self):
        recorder = recorder_of()
        with self.assertRaises(BadValue):
            recorder.write("a", "send", (10, 1))
        self.assertEqual((recorder.pending("a"), recorder.counts("a")), ([], (0, 0, 0, 0)))
        self.assertEqual(recorder.claim("a", "send"), 1)


class Sieves(unittest.TestCase):
    def test_at_first_all_are_let_by(self):
        recorder = recorder_of()
        self.assertEqual([recorder.test_of(lane) for lane in ("a", "b")], [ALL, ALL])

    def test_what_does_not_pass_is_thrown_back(self):
        recorder = recorder_of(("sieve", "a", SMALL), room=8)
        told = [recorder.write("a", "send", (size, 1)) for size in (4, 5, 0)] + [recorder.write("a", "idle", ())]
        self.assertEqual(told, [True, False, True, False])
        self.assertEqual((recorder.counts("a"), len(recorder)), ((2, 2, 0, 0), 2))
        self.assertEqual((recorder.test_of("a"), recorder.test_of("b")), (SMALL, ALL))
        self.assertIs(recorder.write("b", "send", (9, 1)), True)

    def test_also_for_open_claims(self):
        recorder = recorder_of(("claim", "a", "send"), ("fill", "a", (7, 1)), ("sieve", "a", SMALL))
        self.assertIs(recorder.give("a"), False)
        recorder.claim("a", "send")
        recorder.fill("a", (7, 1))
        recorder.sieve("a", ALL)
        self.assertIs(recorder.give("a"), True)
        self.assertEqual(recorder.counts("a"), (1, 1, 0, 0))

    def test_what_was_given_in_stays(self):
        recorder = recorder_of(ONE, ("sieve", "a", ("not", ALL)))
        self.assertEqual(len(recorder.look("a")), 1)


class TalliesAndHalts(unittest.TestCase):
    def test_each_tally_notes_what_is_given_in(self):
        recorder = recorder_of(room=12)
        recorder.tally("sizes", ALL, keys=("size",))
        recorder.tally("few", SMALL, keys=("to",))
        recorder.tally("all", ALL)
        for lane, size, to in (("a", 1, 2), ("b", 7, 2), ("a", 1, 3), ("b", 2, 2)):
            recorder.write(lane, "send", (size, to))
        recorder.write("a", "idle", ())
        self.assertEqual(recorder.table("sizes"), [((1,), 2), ((2,), 1), ((7,), 1)])
        self.assertEqual(recorder.table("few"), [((2,), 2), ((3,), 1)])
        self.assertEqual(recorder.table("all"), [((), 5)])
        self.assertEqual(recorder.tallies(), ["all", "few", "sizes"])

    def test_from_its_making_on(self):
        recorder = recorder_of(ONE, ("claim", "a", "send"), ("tally", "t", ALL, ()), ONE)
        self.assertEqual(recorder.table("t"), [((), 1)])
        recorder.give("a")
        self.assertEqual(recorder.table("t"), [((), 2)])

    def test_what_is_not_given_in_is_not_noted(self):
        recorder = recorder_of(("tally", "t", ALL, ()), ("sieve", "a", SMALL), *FULL_B)
        self.assertEqual(recorder.table("t"), [((), 2)])
        recorder.write("a", "send", (9, 1))
        recorder.write("b", "send", (1, 1))
        recorder.claim("a", "send")
        recorder.throw("a")
        self.assertEqual((recorder.table("t"), recorder.dropped("t")), ([((), 2)], 0))

    def test_events_that_are_lost_stay_counted(self):
        recorder = recorder_of(("tally", "t", ALL, ()), *(ONE,) * 5)
        self.assertEqual((recorder.counts("a"), recorder.table("t")), ((5, 0, 3, 0), [((), 5)]))

    def test_dropped(self):
        recorder = recorder_of(("kind", "wide", (("x", 0, 99),)), ("tally", "t", ALL, ("x",)))
        for value in range(20):
            recorder.write("a", "wide", (value,))
        self.assertEqual((len(recorder.table("t")), recorder.dropped("t")), (16, 4))

    def test_a_halt_stops(self):
        recorder = recorder_of(("halt", ("same", "size", 7)))
        self.assertEqual(recorder.halted_by(), ("same", "size", 7))
        self.assertIs(recorder.write("a", "send", (6, 1)), True)
        self.assertIs(recorder.stopped(), False)
        self.assertIs(recorder.write("a", "send", (7, 1)), True)
        self.assertIs(recorder.stopped(), True)
        with self.assertRaises(Stopped):
            recorder.write("b", "send", (1, 1))
        # The halt stays: the recorder goes on till the next such event.
        recorder.go()
        self.assertEqual((recorder.stopped(), recorder.halted_by()), (False, ("same", "size", 7)))
        recorder.write("b", "send", (7, 4))
        self.assertIs(recorder.stopped(), True)
        recorder.go()
        recorder.halt()
        recorder.write("b", "send", (7, 4))
        self.assertIs(recorder.stopped(), False)

    def test_open_claims_of_a_stopped_recorder(self):
        recorder = recorder_of(("claim", "a", "send"), ("claim", "b", "send"), ("halt", ALL), room=8)
        self.assertIs(recorder.give("a"), True)
        self.assertIs(recorder.stopped(), True)
        recorder.fill("b", (3, 3))
        self.assertIs(recorder.give("b"), True)
        self.assertEqual(len(recorder), 2)
        recorder.go()
        self.assertIs(recorder.stopped(), False)

    def test_the_test_of_the_lane_the_tallies_and_the_halt_at_one_giving_in(self):
        deeds = (("sieve", "a", SMALL), ("tally", "t", ("is", "send"), ("size",)), ("tally", "u", ("same", "to", 2),
                 ()),
                 ("halt", ("less", "size", 9)))
        recorder = recorder_of(*deeds)
        # It passes the halt, but not the lane's test: nothing comes of it.
        self.assertIs(recorder.write("a", "send", (8, 2)), False)
        self.assertEqual((recorder.table("t"), recorder.table("u"), recorder.stopped()), ([], [], False))
        self.assertIs(recorder.write("a", "send", (4, 2)), True)
        self.assertEqual((recorder.table("t"), recorder.table("u")), ([((4,), 1)], [((), 1)]))
        self.assertIs(recorder.stopped(), True)
        recorder.go()
        self.assertIs(recorder.write("b", "send", (9, 1)), True)
        self.assertEqual((recorder.table("t"), recorder.table("u")), ([((4,), 1), ((9,), 1)], [((), 1)]))
        self.assertIs(recorder.stopped(), False)

    def test_a_halt_of_what_was_given_in_ahead_of_it(self):
        recorder = recorder_of(ONE, ("halt", ALL))
        self.assertIs(recorder.stopped(), False)


class Asking(unittest.TestCase):
    def some_recorder(self):
        return recorder_of(
            ("lane", "x", True), ("kind", "ask", (("to", 1, 4),)), ("tally", "u", ALL, ("to",)), ("tally", "t", SMALL,
            ()),
            ("tick", "a", 3), ONE, ONE, ("claim", "a", "send"), ("write", "b", "ask", (3,)), ("take", "b"),
            ("write", "x", "idle", ()), ("halt", SMALL), ("sieve", "x", SMALL),
        )

    def test_kinds(self):
        recorder = self.some_recorder()
        kinds = recorder.kinds()
        self.assertEqual(kinds, [Kind("ask", (("to", 1, 4),)), Kind("idle"), Kind(*SEND)])
        self.assertTrue(all(isinstance(kind, Kind) for kind in kinds))
        # Not even a Kind that is told lets anybody reach in.
        kinds[2].fields, kinds[2].name = (), "other"
        self.assertEqual(recorder.kinds()[2], Kind(*SEND))
        self.assertIs(recorder.write("b", "send", (1, 1)), True)

    def test_lanes_in_the_order_in_which_they_came(self):
        recorder = Recorder()
        for name in ("c", "a", "b"):
            recorder.lane(name)
        self.assertEqual(recorder.lanes(), ["c", "a", "b"])
        recorder.undo()
        recorder.lane("d")
        self.assertEqual(recorder.lanes(), ["c", "a", "d"])

    def test_len(self):
        recorder = self.some_recorder()
        self.assertEqual(len(recorder), 2)
        recorder.take("a")
        self.assertEqual(len(recorder), 2)
        recorder.take("a")
        self.assertEqual(len(recorder), 1)
        recorder.give("a")
        self.assertEqual(len(recorder), 2)

    def test_names_that_are_not_there(self):
        recorder = self.some_recorder()
        asked = [
            (NoLane, getattr(recorder, word), name)
            for word in ("now", "test_of", "look", "pending", "counts", "looker") for name in ("c", "send", "t", "",
                         "A")
        ]
        asked += [
            (NoTally, getattr(recorder, word), name)
            for word in ("table", "dropped") for name in ("x", "a", "send", "", "T")
        ]
        kept = shown_recorder(recorder)
        for error, ask, name in asked:
            with self.subTest(name=name), self.assertRaises(error) as caught:
                ask(name)
            self.assertIs(type(caught.exception), error)
            self.assertIsInstance(caught.exception, Missing)
        self.assertEqual(shown_recorder(recorder), kept)

    def test_questions_change_nothing(self):
        recorder = self.some_recorder()
        recorder.undo()
        kept = shown_recorder(recorder)
        recorder.order([(0, 3, 1, 0)])
        recorder.looker("a").more()
        self.assertEqual(shown_recorder(recorder), kept)
        self.assertEqual(recorder.redo(), ("sieve", "x", SMALL))

    def test_each_list_is_a_new_one(self):
        recorder = self.some_recorder()
        kept = shown_recorder(recorder)
        for told in (
            recorder.kinds(), recorder.lanes(), recorder.look("a"), recorder.pending("a"), recorder.table("u"),
            recorder.tallies(), recorder.done(), *recorder.order([])[1:], *recorder.order([], most=0)[1:],
        ):
            self.assertIsInstance(told, list)
            told.append("more")
            told.reverse()
        self.assertEqual(shown_recorder(recorder), kept)

    def test_what_whole_tells_is_a_new_list(self):
        recorder = self.some_recorder()
        deeds = [("take", "a"), ("tick", "a", 1)]
        told = recorder.whole(deeds)
        kept = shown_recorder(recorder)
        told.clear()
        deeds.clear()
        self.assertEqual(shown_recorder(recorder), kept)
        self.assertEqual(recorder.undo(), ("whole", (("take", "a"), ("tick", "a", 1))))


class LookersOfRecorders(unittest.TestCase):
    def test_all_from_the_first_place_on(self):
        recorder = recorder_of(*(ONE,) * 3)
        looker = recorder.looker("a")
        self.assertIsInstance(looker, Looker)
        self.assertEqual(looker.place(), 0)
        self.assertEqual([thing[:2] for thing in looker.more()], [("lost", 1), ("event", 1), ("event", 2)])

    def test_no_later_deed_reaches_it(self):
        recorder = recorder_of(ONE, ("claim", "a", "send"))
        looker, other = recorder.looker("a"), recorder.looker("a")
        for deed in (("give", "a"), ONE, ONE, ("take", "a"), ("take", "a"), ("resize", "a", 9)):
            recorder.do(deed)
        first = [("event", 0, 0, "send", (1, 1))]
        self.assertEqual((looker.more(), looker.more()), (first, []))
        for turn in range(6):
            recorder.undo()
            self.assertEqual(looker.more(), [])
        recorder.throw("a")
        self.assertEqual(other.more(), first)
        looker.back()
        self.assertEqual(looker.more(), first)

    def test_it_reaches_no_deed(self):
        recorder = recorder_of(ONE)
        recorder.looker("a").more()
        self.assertEqual(recorder.take("a"), ("event", 0, 0, "send", (1, 1)))

    def test_as_a_lane_by_itself(self):
        lane = Lane(pages=2, room=5)
        for turn in range(4):
            lane.give(lane.claim(Kind(*SEND), 0))
        recorder = recorder_of(*(("write", "a", "send", (0, 1)),) * 4)
        self.assertEqual(recorder.looker("a").more(), Looker(lane).more())


class Orders(RingCase):
    def test_without_lanes(self):
        for recorder in (Recorder(), Recorder(pages=2)):
            with self.assertRaises(BadSize):
                recorder.order([])
            with self.assertRaises(BadSize):
                recorder.order([], most=-1)
            self.refused_causes(recorder)

    def refused_causes(self, recorder):
        for causes, word in (([(0, 0, 1, 0)], "badtie"), ([(0, 0, 0, 0)], "badcause"), ([(0, LIMIT, 1, 0)],
                             "badcause")):
            with self.subTest(causes), self.assertRaises(ValueError) as caught:
                recorder.order(causes)
            self.assertEqual(caught.exception.word, word)

    def test_without_causes(self):
        recorder = recorder_of(("tick", "a", 3), ONE, ("write", "b", "idle", ()))
        events = [(1, ("event", 0, 0, "idle", ())), (0, ("event", 0, 3, "send", (1, 1)))]
        self.assertEqual(recorder.order([]), ("order", [0, 0], events))
        self.assertEqual(recorder_of().order([]), ("order", [0, 0], []))

    def test_with_causes(self):
        recorder = recorder_of(("tick", "a", 3), ONE, ("write", "b", "idle", ()))
        events = [(0, ("event", 0, 3, "send", (1, 1))), (1, ("event", 0, 0, "idle", ()))]
        self.assertEqual(recorder.order([(0, 3, 1, 0)]), ("order", [0, 4], events))
        self.assertEqual(recorder.order([(0, 3, 1, 0)], most=4), ("order", [0, 4], events))
        word, found = recorder.order([(0, 3, 1, 0)], most=3)
        self.assertEqual(word, "ring")
        self.check_ring(found, 2, [(1, 0, 4)], 3)
        word, found = recorder.order([(0, 3, 1, 0), (1, 0, 0, 3)])
        self.assertEqual((word, sorted(found)), ("ring", [(0, 1, -2), (1, 0, 4)]))

    def test_lanes_are_numbered_as_they_came(self):
        recorder = Recorder()
        recorder.kind("idle")
        for name in ("z", "a"):
            recorder.lane(name)
        recorder.write("z", "idle", ())
        self.assertEqual(recorder.order([])[2], [(0, ("event", 0, 0, "idle", ()))])

    def test_as_they_are_looked_at_now(self):
        recorder = recorder_of(*(ONE,) * 4, ("claim", "b", "send"), ("write", "b", "idle", ()), room=8)
        self.assertEqual([event[1] for lane, event in recorder.order([])[2]], [0, 1, 2, 3])
        recorder.take("a")
        self.assertEqual([event[1] for lane, event in recorder.order([])[2]], [1, 2, 3])
        recorder.throw("b")
        self.assertEqual([lane for lane, event in recorder.order([])[2]], [0, 0, 0, 1])

    def test_refusals(self):
        recorder = recorder_of()
        for causes, most, word in (
            ([(0, 0, 0, 0)], -1, "badcause"), ([(0, 0, 2, 0)], -1, "badtie"), ([(0, 0, 1, 0)], -1, "badsize"),
            ([], 10 ** 12 + 1, "badsize"), ([(0, 0, 2, 0), (0, 0, 6, 0)], 9, "badcause"),
        ):
            kept = shown_recorder(recorder)
            with self.subTest(causes), self.assertRaises(ValueError) as caught:
                recorder.order(causes, most=most)
            self.assertEqual(caught.exception.word, word)
            self.assertEqual(shown_recorder(recorder), kept)


if __name__ == "__main__":
    unittest.main()
