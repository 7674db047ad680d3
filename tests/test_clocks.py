"""lanescribe.clocks: the least amounts that meet all ties, and the rings where there are none."""

import unittest
from itertools import combinations, product
from random import Random

from lanescribe.clocks import MOST_AMOUNT, amounts, meets, ring
from lanescribe.errors import BadSize, BadTie
from lanescribe.kinds import LIMIT

from tests.helpers import RingCase

MOST = 10 ** 12


def by_going_through(lanes, ties, most):
    """The least amounts, found by trying all; None where none meet the ties."""
    found = [
        row for row in product(range(most + 1), repeat=lanes)
        if all(row[one] - row[other] >= least for one, other, least in ties)
    ]
    return [min(column) for column in zip(*found)] if found else None


def by_longest_ways(lanes, ties, most):
    """The least amounts, as the longest ways between all pairs tell them; None where one leads back longer than 0."""
    far = {pair: 0 if pair[0] == pair[1] else None for pair in product(range(-1, lanes), repeat=2)}
    edges = ties + [(lane, -1, 0) for lane in range(lanes)] + [(-1, lane, -most) for lane in range(lanes)]
    for one, other, least in edges:
        if far[one, other] is None or far[one, other] < least:
            far[one, other] = least
    for middle in range(-1, lanes):
        for one, other in far:
            if far[one, middle] is not None and far[middle, other] is not None:
                length = far[one, middle] + far[middle, other]
                if far[one, other] is None or far[one, other] < length:
                    far[one, other] = length
    if any(far[lane, lane] > 0 for lane in range(-1, lanes)):
        return None
    return [far[lane, -1] for lane in range(lanes)]


class Case(RingCase):
    def told(self, lanes, ties, most, expected):
        """The amounts are these, and there is a ring just where they are None."""
        kept = list(ties)
        self.assertEqual(amounts(lanes, ties, most=most), expected, (lanes, ties, most))
        found = ring(lanes, ties, most=most)
        if expected is None:
            self.check_ring(found, lanes, ties, most)
        else:
            self.assertIsNone(found)
            self.assertIs(meets(lanes, ties, expected, most=most), True)
        self.assertEqual(ties, kept)
        return found


class Amounts(Case):
    def test_constant(self):
        self.assertEqual(MOST_AMOUNT, 99999)

    def test_without_ties(self):
        for lanes in range(1, 7):
            for most in (0, 1, MOST_AMOUNT, MOST):
                self.told(lanes, [], most, [0] * lanes)

    def test_a_tie_raises_its_one(self):
        self.told(2, [(0, 1, 5)], 9, [5, 0])
        self.told(2, [(1, 0, 5)], 9, [0, 5])
        self.told(3, [(2, 0, LIMIT)], LIMIT, [0, 0, LIMIT])

    def test_a_tie_below_nought_raises_nobody_by_itself(self):
        self.told(2, [(0, 1, -5)], 9, [0, 0])
        self.told(2, [(0, 1, 0), (1, 0, 0)], 9, [0, 0])
        self.told(2, [(0, 1, -LIMIT)], 0, [0, 0])
        # The lane 1 is raised by 7, and may then stand 5 above the lane 0 at most.
        self.told(3, [(0, 1, -5), (1, 2, 7)], 9, [2, 7, 0])

    def test_the_greatest_of_several_ties(self):
        self.told(2, [(0, 1, 3), (0, 1, 5), (0, 1, 4)], 9, [5, 0])
        self.told(3, [(0, 1, 3), (1, 2, 4), (0, 2, 6)], 9, [7, 4, 0])
        self.told(3, [(0, 1, 3), (1, 2, 4), (0, 2, 8)], 9, [8, 4, 0])

    def test_rows_of_ties_in_any_order(self):
        ties = [(lane + 1, lane, 10) for lane in range(5)]
        self.told(6, ties, 50, [0, 10, 20, 30, 40, 50])
        self.told(6, ties[::-1], 50, [0, 10, 20, 30, 40, 50])
        self.told(6, [(one, other, -10) for other, one, least in ties], 0, [0] * 6)

    def test_a_ring_of_ties_that_comes_to_nought_can_be_met(self):
        self.told(2, [(0, 1, 4), (1, 0, -4)], 4, [4, 0])
        self.told(3, [(0, 1, 4), (1, 2, -6), (2, 0, 2)], 6, [4, 0, 6])

    def test_the_most(self):
        ties = [(0, 1, 3), (1, 2, 4)]
        self.told(3, ties, 7, [7, 4, 0])
        found = self.told(3, ties, 6, None)
        self.assertEqual(sorted(found), [(-1, 0, -6), (0, 1, 3), (1, 2, 4), (2, -1, 0)])

    def test_a_most_of_nought(self):
        self.told(2, [(0, 1, 0)], 0, [0, 0])
        self.assertEqual(sorted(self.told(2, [(0, 1, 1)], 0, None)), [(-1, 0, 0), (0, 1, 1), (1, -1, 0)])

    def test_the_highest_most(self):
        ties = [(lane, lane + 1, LIMIT) for lane in range(5)]
        self.told(6, ties, MOST, [LIMIT * 5, LIMIT * 4, LIMIT * 3, LIMIT * 2, LIMIT, 0])
        self.told(6, ties, LIMIT * 5, [LIMIT * 5, LIMIT * 4, LIMIT * 3, LIMIT * 2, LIMIT, 0])
        self.told(6, ties, LIMIT * 5 - 1, None)
        # Raising one by one up to such a most would never end.
        self.told(2, [(0, 1, 1), (1, 0, 0)], MOST, None)

    def test_the_most_when_nothing_is_told(self):
        self.assertEqual(amounts(2, [(0, 1, 99999)]), [99999, 0])
        self.assertIsNone(ring(2, [(0, 1, 99999)]))
        self.assertIsNone(amounts(2, [(0, 1, 100000)]))
        self.check_ring(ring(2, [(0, 1, 100000)]), 2, [(0, 1, 100000)], 99999)
        self.assertIs(meets(1, [], [99999]), True)
        self.assertIs(meets(1, [], [100000]), False)

    def test_all_ties_of_few_lanes(self):
        pool = [(one, other, least) for one, other in ((0, 1), (1, 0)) for least in range(-3, 4)]
        for most in range(4):
            for many in range(4):
                for ties in combinations(pool, many):
                    self.told(2, list(ties), most, by_going_through(2, ties, most))

    def test_many_ties_of_three_lanes(self):
        pairs = [(one, other) for one, other in product(range(3), repeat=2) if one != other]
        pool = [(one, other, least) for one, other in pairs for least in (-2, 0, 1, 2)]
        for most in (0, 2, 3):
            for many in range(4):
                for ties in combinations(pool, many):
                    self.told(3, list(ties), most, by_going_through(3, ties, most))

    def test_by_chance(self):
        chance = Random(16)
        rings = 0
        for turn in range(1500):
            lanes = chance.randrange(2, 7)
            wide = chance.choice((2, 10, LIMIT))
            ties = [
                (*chance.sample(range(lanes), 2), chance.randint(-wide, wide // chance.choice((1, 2, 5))))
                for number in range(chance.randrange(9))
            ]
            most = chance.choice((0, wide, 2 * wide, MOST))
            expected = by_longest_ways(lanes, ties, most)
            self.told(lanes, ties, most, expected)
            rings += expected is None
        self.assertTrue(300 < rings < 1200, rings)


class Rings(Case):
    def test_two_ties(self):
        found = self.told(2, [(0, 1, 3), (1, 0, -2)], MOST, None)
        self.assertEqual(sorted(found), [(0, 1, 3), (1, 0, -2)])

    def test_each_next_one_is_the_other_of_the_one_ahead(self):
        ties = [(0, 1, 5), (1, 2, -3), (2, 3, 1), (3, 0, -2)]
        found = self.told(4, ties, MOST, None)
        start = found.index((0, 1, 5))
        self.assertEqual(found[start:] + found[:start], ties)

    def test_lanes_beside_the_ring_are_left_out(self):
        # The lane 0 is raised by the ring without end, but is no part of it.
        found = self.told(4, [(0, 1, 9), (1, 2, 1), (2, 1, 0), (3, 0, 9)], MOST, None)
        self.assertEqual(sorted(found), [(1, 2, 1), (2, 1, 0)])

    def test_both_bounds(self):
        found = self.told(3, [(0, 1, 4)], 3, None)
        self.assertEqual(sorted(found), [(-1, 0, -3), (0, 1, 4), (1, -1, 0)])

    def test_no_ring_where_amounts_are(self):
        self.assertIsNone(ring(1, []))
        self.assertIsNone(ring(2, [(0, 1, 3), (1, 0, -3)]))


class Meets(unittest.TestCase):
    def test_each_tie(self):
        ties = [(0, 1, 3), (2, 1, -2)]
        for row, met in (
            ([3, 0, 0], True), ([4, 0, 0], True), ([2, 0, 0], False), ([6, 3, 1], True), ([6, 3, 0], False),
            ([5, 3, 1], False), ([9, 0, 9], True),
        ):
            self.assertIs(meets(3, ties, row, most=9), met, row)

    def test_amounts_go_from_nought_to_the_most(self):
        for row, met in (([0, 0], True), ([9, 9], True), ([-1, 0], False), ([0, -1], False), ([10, 0], False),
                         ([0, 10], False), ([10 ** 29, 0], False), ([0, -10 ** 29], False)):
            self.assertIs(meets(2, [], row, most=9), met, row)
        self.assertIs(meets(1, [], [MOST], most=MOST), True)
        self.assertIs(meets(1, [], [MOST + 1], most=MOST), False)
        self.assertIs(meets(1, [], [0], most=0), True)
        self.assertIs(meets(1, [], [1], most=0), False)

    def test_rows_that_have_not_one_for_each_lane(self):
        for lanes in (1, 2, 6):
            for many in (0, lanes - 1, lanes + 1, 400):
                self.assertIs(meets(lanes, [], [0] * many), False)
            self.assertIs(meets(lanes, [], [0] * lanes), True)
        self.assertIs(meets(2, [(0, 1, 3)], []), False)

    def test_nothing_handed_in_is_changed(self):
        ties, row = [(0, 1, 3)], [3, 0]
        meets(2, ties, row)
        self.assertEqual((ties, row), ([(0, 1, 3)], [3, 0]))


class Refusals(unittest.TestCase):
    def refused(self, error, lanes, ties, most):
        for call in (
            lambda: amounts(lanes, ties, most=most), lambda: ring(lanes, ties, most=most),
            lambda: meets(lanes, ties, [0] * 2, most=most), lambda: meets(lanes, ties, [], most=most),
        ):
            with self.subTest(lanes=lanes, ties=ties, most=most), self.assertRaises(error) as caught:
                call()
            self.assertIs(type(caught.exception), error)

    def test_lanes(self):
        for lanes in (0, 7, -1, 10 ** 29, -10 ** 29):
            self.refused(BadSize, lanes, [], 9)

    def test_ties(self):
        for tie in (
            (0, 0, 1), (1, 1, 0), (0, 2, 1), (2, 0, 1), (-1, 0, 1), (0, -1, 0), (-1, -1, 0), (10 ** 29, 0, 0),
            (0, 1, LIMIT + 1), (0, 1, -LIMIT - 1), (1, 0, 10 ** 29),
        ):
            self.refused(BadTie, 2, [tie], 9)
            self.refused(BadTie, 2, [(0, 1, 0), (1, 0, 0), tie], 9)
        self.refused(BadTie, 1, [(0, 1, 0)], 9)
        self.refused(BadTie, 5, [(0, 5, 0)], 9)

    def test_ties_at_their_bounds(self):
        self.assertEqual(amounts(6, [(5, 0, LIMIT), (0, 5, -LIMIT)], most=LIMIT), [0, 0, 0, 0, 0, LIMIT])

    def test_most(self):
        for most in (-1, MOST + 1, 10 ** 29, -10 ** 29):
            self.refused(BadSize, 2, [(0, 1, 0)], most)

    def test_the_first_refusal_comes(self):
        self.refused(BadSize, 0, [(0, 0, 0)], 9)
        self.refused(BadSize, 7, [(0, 7, LIMIT + 1)], -1)
        self.refused(BadTie, 2, [(0, 0, 0)], -1)
        self.refused(BadTie, 2, [(0, 1, LIMIT + 1)], MOST + 1)
        # No amounts meet these ties, but the most is refused all the same.
        self.refused(BadSize, 2, [(0, 1, 1), (1, 0, 1)], -1)

    def test_each_list_is_a_new_one(self):
        ties = [(0, 1, 3)]
        amounts(2, ties).clear()
        self.assertEqual(amounts(2, ties), [3, 0])
        ring(2, ties, most=2).clear()
        self.assertEqual(len(ring(2, ties, most=2)), 3)
        self.assertEqual(ties, [(0, 1, 3)])


if __name__ == "__main__":
    unittest.main()
