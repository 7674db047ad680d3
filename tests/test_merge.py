"""lanescribe.merge: ties of causes, rows laid into one, and the order or the ring of several lanes."""

import unittest
from itertools import product
from random import Random

from lanescribe.clocks import amounts, meets
from lanescribe.errors import BadCause, BadSize, BadTie
from lanescribe.kinds import LIMIT
from lanescribe.lanes import Lane
from lanescribe.lookers import Looker
from lanescribe.merge import merged, ordered, ties_of

from tests.helpers import KINDS, RingCase, write

LAST = LIMIT - 1
MOST = 10 ** 12

NO_CAUSES = (
    (0, 5, 0, 6), (5, 5, 5, 6), (-1, 0, 0, 0), (0, 0, -1, 0), (6, 0, 0, 0), (0, 0, 6, 0), (10 ** 29, 0, 0, 0),
    (0, -1, 1, 0), (0, 0, 1, -1), (0, LIMIT, 1, 0), (0, 0, 1, LIMIT), (0, 10 ** 29, 1, 0), (0, 0, 1, -10 ** 29),
)


def row_of(*times, first=0):
    """A row of events at these times."""
    return [("event", place, time, "a", ()) for place, time in enumerate(times, first)]


def short(pairs):
    """The lane and the place of each event."""
    return [(lane, event[1]) for lane, event in pairs]


class Ties(unittest.TestCase):
    def test_what_comes_first_has_the_lesser_true_time(self):
        for time, second in product(range(4), repeat=2):
            ties = ties_of([(0, time, 1, second)])
            self.assertEqual(ties, [(1, 0, time - second + 1)])
            for row in product(range(5), repeat=2):
                self.assertIs(meets(2, ties, list(row)), time + row[0] < second + row[1])

    def test_in_order(self):
        causes = [(0, 5, 1, 3), (3, 0, 2, 0), (1, 3, 0, 5), (0, 5, 1, 3)]
        self.assertEqual(ties_of(causes), [(1, 0, 3), (2, 3, 1), (0, 1, -1), (1, 0, 3)])
        self.assertEqual(ties_of([]), [])

    def test_bounds(self):
        self.assertEqual(ties_of([(0, LAST, 5, 0), (5, 0, 0, LAST)]), [(5, 0, LIMIT), (0, 5, 2 - LIMIT)])
        for lane, other in product(range(6), repeat=2):
            if lane != other:
                self.assertEqual(ties_of([(lane, 0, other, 0)]), [(other, lane, 1)])

    def test_no_causes(self):
        for cause in NO_CAUSES:
            for causes in ([cause], [(0, 0, 1, 0), cause], [cause, (0, 0, 1, 0)]):
                with self.subTest(cause), self.assertRaises(BadCause) as caught:
                    ties_of(causes)
                self.assertEqual(caught.exception.word, "badcause")

    def test_handed_in_and_told_lists(self):
        causes = [(0, 5, 1, 3)]
        ties_of(causes).clear()
        self.assertEqual((causes, ties_of(causes)), ([(0, 5, 1, 3)], [(1, 0, 3)]))


class Merged(unittest.TestCase):
    def test_by_true_times(self):
        rows = [row_of(0, 10, 20), row_of(1, 2, 30)]
        self.assertEqual(short(merged(rows, [0, 0])), [(0, 0), (1, 0), (1, 1), (0, 1), (0, 2), (1, 2)])
        self.assertEqual(short(merged(rows, [15, 0])), [(1, 0), (1, 1), (0, 0), (0, 1), (1, 2), (0, 2)])
        self.assertEqual(short(merged(rows, [0, 15])), [(0, 0), (0, 1), (1, 0), (1, 1), (0, 2), (1, 2)])

    def test_the_events_themselves(self):
        one = ("event", 4, 7, "send", (3, 1))
        other = ("event", 0, 6, "idle", ())
        self.assertEqual(merged([[one], [other]], [0, 0]), [(1, other), (0, one)])
        self.assertEqual(merged([[one], [other]], [0, 2]), [(0, one), (1, other)])

    def test_like_true_times_by_lane(self):
        rows = [row_of(5), row_of(4), row_of(3), row_of(2)]
        self.assertEqual(short(merged(rows, [0, 1, 2, 3])), [(0, 0), (1, 0), (2, 0), (3, 0)])
        self.assertEqual(short(merged(rows, [1, 1, 2, 3])), [(1, 0), (2, 0), (3, 0), (0, 0)])

    def test_like_times_of_a_lane_by_place(self):
        rows = [row_of(5, 5, 5), row_of(5, 5)]
        self.assertEqual(short(merged(rows, [0, 0])), [(0, 0), (0, 1), (0, 2), (1, 0), (1, 1)])
        rows = [row_of(*[5] * 12), row_of(*[5] * 12)]
        self.assertEqual(short(merged(rows, [1, 0])), [(1, at) for at in range(12)] + [(0, at) for at in range(12)])

    def test_what_was_lost_is_left_out(self):
        rows = [[("lost", 3)] + row_of(1, 9, first=3) + [("lost", 2)] + row_of(11, first=7), [("lost", 1)]]
        self.assertEqual(short(merged(rows, [0, 0])), [(0, 3), (0, 4), (0, 7)])
        self.assertEqual(merged([[("lost", 1)]], [0]), [])

    def test_empty_rows(self):
        self.assertEqual(merged([[]], [0]), [])
        self.assertEqual(merged([[] for lane in range(6)], [9] * 6), [])
        self.assertEqual(short(merged([[], row_of(1), []], [5, 0, 5])), [(1, 0)])

    def test_six_lanes(self):
        rows = [row_of(lane) for lane in range(6)]
        self.assertEqual(short(merged(rows, [10, 8, 6, 4, 2, 0])), [(lane, 0) for lane in reversed(range(6))])

    def test_times_and_amounts_beyond_all_bounds(self):
        rows = [row_of(-5, 10 ** 29), row_of(-6, 10 ** 29)]
        self.assertEqual(short(merged(rows, [0, 0])), [(1, 0), (0, 0), (0, 1), (1, 1)])
        self.assertEqual(short(merged(rows, [-(10 ** 29), 0])), [(0, 0), (1, 0), (0, 1), (1, 1)])

    def test_not_one_amount_for_each_lane(self):
        for lanes, many in ((1, 0), (1, 2), (2, 1), (2, 3), (6, 5), (6, 7), (6, 400)):
            with self.subTest(lanes=lanes, many=many), self.assertRaises(BadSize) as caught:
                merged([row_of(1)] * lanes, [0] * many)
            self.assertEqual(caught.exception.word, "badsize")

    def test_what_lookers_were_told(self):
        lanes = [Lane(pages=2, room=5) for number in range(2)]
        for time in range(4):
            write(lanes[0], KINDS[4], 10 * time)
            write(lanes[1], KINDS[0], 10 * time)
        told = [Looker(lane).more() for lane in lanes]
        self.assertEqual(short(merged(told, [0, 5])), [(1, 0), (1, 1), (0, 2), (1, 2), (0, 3), (1, 3)])

    def test_handed_in_and_told_lists(self):
        rows, row = [row_of(3, 9), [("lost", 1)]], [2, 1]
        ahead = [list(told) for told in rows]
        told = merged(rows, row)
        kept = list(told)
        told.clear()
        self.assertEqual((rows, row, merged(rows, row)), (ahead, [2, 1], kept))


class Ordered(RingCase):
    def test_order_by_the_least_amounts(self):
        rows = [row_of(10, 20), row_of(3, 4), row_of(0)]
        # What happened at 20 on the lane 0 was ahead of what happened at 4 on the lane 1.
        told = ordered(rows, [(0, 20, 1, 4)])
        self.assertEqual(told[:2], ("order", [0, 17, 0]))
        self.assertEqual(short(told[2]), [(2, 0), (0, 0), (0, 1), (1, 0), (1, 1)])
        self.assertEqual(told[2], merged(rows, [0, 17, 0]))

    def test_without_causes(self):
        rows = [row_of(5), row_of(4)]
        self.assertEqual(ordered(rows, []), ("order", [0, 0], [(1, rows[1][0]), (0, rows[0][0])]))
        self.assertEqual(ordered([[]], []), ("order", [0], []))
        self.assertEqual(ordered([[]] * 6, []), ("order", [0] * 6, []))

    def test_causes_need_no_events(self):
        self.assertEqual(ordered([[], []], [(0, 8, 1, 0)]), ("order", [0, 9], []))

    def test_a_ring_of_causes(self):
        rows, causes = [row_of(1), row_of(1)], [(0, 1, 1, 1), (1, 1, 0, 1)]
        word, found = ordered(rows, causes)
        self.assertEqual((word, sorted(found)), ("ring", [(0, 1, 1), (1, 0, 1)]))
        self.check_ring(found, 2, ties_of(causes), 99999)

    def test_the_most(self):
        rows, causes = [row_of(20), row_of(4)], [(0, 20, 1, 4)]
        self.assertEqual(ordered(rows, causes, most=17)[:2], ("order", [0, 17]))
        word, found = ordered(rows, causes, most=16)
        self.assertEqual((word, sorted(found)), ("ring", [(-1, 1, -16), (0, -1, 0), (1, 0, 17)]))
        self.check_ring(found, 2, ties_of(causes), 16)

    def test_the_most_when_nothing_is_told(self):
        rows = [[], []]
        self.assertEqual(ordered(rows, [(0, 99998, 1, 0)]), ("order", [0, 99999], []))
        self.assertEqual(ordered(rows, [(0, 99999, 1, 0)])[0], "ring")
        self.assertEqual(ordered(rows, [(0, LAST, 1, 0)], most=MOST), ("order", [0, LIMIT], []))
        self.assertEqual(ordered(rows, [], most=0), ("order", [0, 0], []))

    def test_by_chance(self):
        chance = Random(18)
        words = []
        for turn in range(400):
            lanes = chance.randrange(2, 7)
            rows = [row_of(*sorted(chance.choices(range(30), k=5))) for lane in range(lanes)]
            causes = []
            for number in range(chance.randrange(5)):
                lane, other = chance.sample(range(lanes), 2)
                causes.append((lane, chance.choice(rows[lane])[2], other, chance.choice(rows[other])[2]))
            told = ordered(rows, causes, most=40)
            words.append(told[0])
            if told[0] == "ring":
                self.check_ring(told[1], lanes, ties_of(causes), 40)
                continue
            self.assertEqual(told[1], amounts(lanes, ties_of(causes), most=40))
            # Each cause is ahead of what it caused in the order that is told.
            times = {(lane, event[2]): at for at, (lane, event) in enumerate(told[2])}
            for lane, time, other, second in causes:
                self.assertLess(times[lane, time], times[other, second])
        self.assertTrue(40 < words.count("ring") < 360, words.count("ring"))

    def refused(self, error, rows, causes, most):
        ahead = [list(told) for told in rows]
        with self.subTest(causes=causes, most=most), self.assertRaises(error) as caught:
            ordered(rows, causes, most=most)
        self.assertIs(type(caught.exception), error)
        self.assertEqual(rows, ahead)

    def test_refusals(self):
        for cause in NO_CAUSES:
            self.refused(BadCause, [[]] * 6, [cause], 9)
        for cause in ((0, 0, 2, 0), (2, 0, 0, 0), (5, 0, 1, 0), (4, 0, 5, 0)):
            self.refused(BadTie, [[], []], [cause], 9)
        for most in (-1, MOST + 1, -10 ** 29):
            self.refused(BadSize, [[], []], [(0, 0, 1, 0)], most)
        for many in (0, 7):
            self.refused(BadSize, [[]] * many, [], 9)
        self.refused(BadSize, [[]] * 7, [(0, 0, 1, 0)], 9)

    def test_the_first_refusal_comes(self):
        two = [[], []]
        self.refused(BadCause, two, [(0, 0, 2, 0), (0, 0, 0, 0)], -1)
        self.refused(BadCause, [], [(0, LIMIT, 1, 0)], 9)
        self.refused(BadCause, [[]] * 7, [(0, 0, 6, 0)], 9)
        self.refused(BadTie, two, [(0, 0, 2, 0)], -1)
        self.refused(BadTie, [], [(0, 0, 1, 0)], 9)
        self.refused(BadTie, [[]], [(0, 0, 1, 0)], MOST + 1)

    def test_handed_in_and_told_lists(self):
        rows, causes = [row_of(3, 9), row_of(1)], [(0, 3, 1, 1)]
        for most in (99999, 0):
            told = ordered(rows, causes, most=most)
            kept = [list(thing) for thing in told[1:]]
            for thing in told[1:]:
                thing.clear()
            self.assertEqual((rows, causes), ([row_of(3, 9), row_of(1)], [(0, 3, 1, 1)]))
            self.assertEqual(list(ordered(rows, causes, most=most)[1:]), kept)


if __name__ == "__main__":
    unittest.main()
