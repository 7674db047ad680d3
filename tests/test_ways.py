"""lanescribe.ways: which pairs are ways, how events go along them, and how they are made and made shorter."""

import unittest
from copy import deepcopy
from itertools import product
from random import Random

from lanescribe.errors import BadTest, BadValue, BadWay
from lanescribe.kinds import LIMIT, Kind
from lanescribe.sieve import holds, leaves
from lanescribe.ways import is_way, made, run, shorter, steps

from tests.helpers import ALL, NO_TESTS, all_values, bushy, nots, tests_upto

SEND = Kind("send", (("size", 0, 9), ("to", 1, 4)))
IDLE = Kind("idle")
SENT = ("is", "send")
SMALL = ("less", "size", 5)
HERE = ("same", "to", 2)
# Three leaves that events of this kind pass or don't in all eight combinations.
FREE = Kind("free", (("a", 0, 1), ("b", 0, 1), ("c", 0, 1)))
LEAVES = (("same", "a", 1), ("same", "b", 1), ("less", "c", 1))

NO_WAYS = (
    (0, []), (1, []), (-1, []), (5, []), (10 ** 29, []),
    (True, [(SENT, True, False)]), (False, [(SENT, True, False)]), (1, [(SENT, True, False)]),
    (-1, [(SENT, True, False)]), (1, [(SENT, True, False), (SENT, True, False)]),
    (0, [(SENT, 0, True)]), (0, [(SENT, True, 0)]), (0, [(SENT, 1, True)]), (0, [(SENT, True, 1)]),
    (0, [(SENT, -1, True)]), (0, [(SENT, True, -1)]), (0, [(SENT, 2, 1), (SMALL, True, False)]),
    (0, [(SENT, 1, 2), (SMALL, True, False)]), (0, [(SENT, 1, True), (SMALL, 1, False)]),
    (0, [(SENT, 1, True), (SMALL, True, 1)]), (0, [(SENT, 1, True), (SMALL, 0, False)]),
    (0, [(SENT, 1, True), (SMALL, False, 0)]), (0, [(SENT, 10 ** 29, True)]), (0, [(SENT, True, -10 ** 29)]),
    (0, [(ALL, True, False)]), (0, [(SENT, 1, True), (ALL, True, False)]), (0, [(("not", SENT), True, False)]),
    (0, [(("and", SENT, SMALL), True, False)]), (0, [(("or", SENT, SMALL), True, False)]),
    (0, [(SENT, True, False), ((), True, False)]),
)


def goes(way, asked):
    """What a way tells and how many rows are come to, by what is told of each leaf."""
    goal, rows = way
    many = 0
    while goal is not True and goal is not False:
        leaf, yes, no = rows[goal]
        goal = yes if asked[leaf] else no
        many += 1
    return goal, many


def exact(end):
    """A value that tells 1 and 0 from True and False."""
    return str(end)


def is_short(way):
    """Whether all rows can be come to, none has yes and no alike, and no two are alike."""
    start, rows = way
    come = {0} if rows else set()
    for at, (leaf, yes, no) in enumerate(rows):
        if at in come:
            come |= {end for end in (yes, no) if not isinstance(end, bool)}
    shown = [(leaf, exact(yes), exact(no)) for leaf, yes, no in rows]
    return len(come) == len(rows) == len(set(shown)) and all(yes != no for leaf, yes, no in shown)


def ends(at, many):
    return [True, False] + list(range(at + 1, many))


def all_ways(many, asked):
    """All ways of so many rows over some leaves."""
    choices = [list(product(asked, ends(at, many), ends(at, many))) for at in range(many)]
    return [(0, list(rows)) for rows in product(*choices)]


def some_way(chance, many):
    """A way of so many rows, by chance, with rows that lie near one another."""
    rows = []
    for at in range(many):
        near = [True, False] + list(range(at + 1, min(at + 6, many))) * 3
        rows.append((chance.choice(LEAVES), chance.choice(near), chance.choice(near)))
    return (0, rows)


class IsWay(unittest.TestCase):
    def test_without_rows(self):
        self.assertIs(is_way((True, [])), True)
        self.assertIs(is_way((False, [])), True)

    def test_rows(self):
        rows = (
            [(SENT, True, False)], [(SENT, False, False)], [(SMALL, True, True)], [(HERE, False, True)],
            [(SENT, 1, False), (SMALL, True, False)], [(SENT, 1, 1), (SMALL, True, False)],
            [(SENT, True, 2), (SMALL, True, False), (HERE, True, False)],
            [(SENT, True, False), (SMALL, True, False)],
            [(SENT, 1, 2), (SENT, 2, True), (SENT, False, True)],
            [(("less", "a", -LIMIT), 1, True), (("same", "abcdefgh", LIMIT), True, False)],
            [(("is", "all"), 1, True), (("less", "all", 0), 2, True), (("same", "not", 1), True, False)],
        )
        for row in rows:
            with self.subTest(row):
                self.assertIs(is_way((0, row)), True)

    def test_no_ways(self):
        for way in NO_WAYS:
            with self.subTest(way):
                self.assertIs(is_way(way), False)

    def test_leaves_that_are_none(self):
        for test in NO_TESTS + (nots(2), nots(6), bushy(16), ("less", "a", True), ("same", "a", False)):
            with self.subTest(test):
                self.assertIs(is_way((0, [(test, True, False)])), False)
                self.assertIs(is_way((0, [(SENT, 1, False), (test, True, False)])), False)

    def test_four_hundred_rows(self):
        rows = [(SENT, at + 1, False) for at in range(399)] + [(SENT, True, False)]
        self.assertIs(is_way((0, rows)), True)
        self.assertIs(is_way((0, rows[:-1])), False)


class Refusing(unittest.TestCase):
    def test_no_ways(self):
        for way in NO_WAYS:
            asks = (
                lambda: run(way, SEND, (0, 1)),
                lambda: steps(way, SEND, (0, 1)),
                lambda: shorter(way),
                lambda: run(way, SEND, (10, 5)),
                lambda: steps(way, SEND, ()),
            )
            for number, ask in enumerate(asks):
                with self.subTest(way=way, ask=number), self.assertRaises(BadWay) as caught:
                    ask()
                self.assertEqual(caught.exception.word, "badway")

    def test_values(self):
        rows = (((10, 1), 0), ((0, 0), 1), ((0,), 1), ((), 0), ((0, 1, 2), 2), ((-1, 1, 2), 0))
        for values, at in rows:
            for way in ((True, []), (0, [(SENT, True, False)])):
                for ask in (run, steps):
                    with self.subTest(values=values, way=way), self.assertRaises(BadValue) as caught:
                        ask(way, SEND, values)
                    self.assertEqual(caught.exception.at, at)

    def test_no_tests(self):
        for test in NO_TESTS + (nots(6), bushy(16)):
            with self.subTest(test), self.assertRaises(BadTest) as caught:
                made(test)
            self.assertEqual(caught.exception.word, "badtest")


class Going(unittest.TestCase):
    WAY = (0, [(SENT, 2, 1), (("less", "far", 0), False, True), (SMALL, 3, True), (HERE, False, True)])

    def check(self, way, kind, values, told, many):
        with self.subTest(way=way, kind=str(kind), values=values):
            self.assertIs(run(way, kind, values), told)
            self.assertEqual(steps(way, kind, values), many)

    def test_without_rows(self):
        for start in (True, False):
            self.check((start, []), SEND, (0, 1), start, 0)
            self.check((start, []), IDLE, (), start, 0)

    def test_one_row(self):
        for yes, no in product((True, False), repeat=2):
            way = (0, [(SMALL, yes, no)])
            for value, told in ((4, yes), (5, no), (6, no)):
                self.check(way, SEND, (value, 1), told, 1)

    def test_by_yes_and_by_no(self):
        self.check(self.WAY, IDLE, (), True, 2)
        self.check(self.WAY, Kind("other", (("far", -5, 5),)), (-1,), False, 2)
        self.check(self.WAY, Kind("other", (("far", -5, 5),)), (0,), True, 2)
        self.check(self.WAY, SEND, (5, 2), True, 2)
        self.check(self.WAY, SEND, (4, 2), False, 3)
        self.check(self.WAY, SEND, (4, 1), True, 3)
        self.check(self.WAY, SEND, (4, 3), True, 3)

    def test_row_one_is_not_true(self):
        way = (0, [(SENT, 1, True), (SENT, False, True)])
        self.check(way, SEND, (0, 1), False, 2)
        self.check(way, IDLE, (), True, 1)

    def test_four_hundred_rows(self):
        rows = [(SENT, at + 1, False) for at in range(399)] + [(SENT, True, False)]
        self.check((0, rows), SEND, (0, 1), True, 400)
        self.check((0, rows), IDLE, (), False, 1)

    def test_nothing_handed_in_is_changed(self):
        way = deepcopy(self.WAY)
        kind = Kind("send", SEND.fields)
        run(way, kind, (4, 2))
        steps(way, kind, (4, 2))
        is_way(way)
        shorter(way)
        self.assertEqual(way, self.WAY)
        self.assertEqual(kind, SEND)


class Made(unittest.TestCase):
    def check(self, test, events):
        way = made(test)
        self.assertIs(is_way(way), True, (test, way))
        self.assertLessEqual(len(way[1]), len(leaves(test)), (test, way))
        for kind, values in events:
            self.assertIs(run(way, kind, values), holds(test, kind, values), (test, way, values))

    def test_form(self):
        for test in (ALL, ("not", ALL), SMALL, ("and", SMALL, HERE)):
            start, rows = made(test)
            self.assertIsInstance(made(test), tuple)
            self.assertIsInstance(rows, list)
            self.assertEqual(exact(start), "0" if rows else exact(test == ALL))

    def test_tests_without_leaves_to_ask(self):
        none = ("not", ALL)
        rows = (
            (ALL, True), (none, False), (("not", none), True), (("and", ALL, none), False), (("or", none, ALL), True),
            (bushy(15), True), (("or", ALL, none), True), (("and", none, ALL), False),
        )
        for test, told in rows:
            with self.subTest(test):
                start, laid = made(test)
                self.assertIs(start, told)
                self.assertEqual(laid, [])

    def test_all_beside_another_leaf(self):
        none = ("not", ALL)
        events = [(SEND, (4, 2)), (SEND, (5, 2)), (IDLE, ())]
        for form in ("and", "or"):
            for fixed in (ALL, none):
                for test in ((form, fixed, SMALL), (form, SMALL, fixed), ("not", (form, fixed, SMALL)),
                             (form, HERE, (form, fixed, SMALL)), (form, (form, SMALL, fixed), HERE)):
                    with self.subTest(test):
                        self.check(test, events)

    def test_all_small_tests_at_their_numbers_and_beside(self):
        kind = Kind("k", (("a", -1, 2), ("b", 0, 3)))
        events = [(kind, values) for values in all_values(kind)] + [(Kind("other", (("b", 0, 3),)), (2,)), (IDLE, ())]
        for test in tests_upto((ALL, ("is", "k"), ("less", "a", 1), ("same", "b", 2)), 3):
            self.check(test, events)

    def test_great_tests(self):
        chance = Random(3)
        kind = Kind("k", (("a", 0, 3), ("b", -LIMIT, LIMIT)))
        events = [(kind, (a, b)) for a in range(4) for b in (-LIMIT, -1, 0, 1, 6, 7, 8, LIMIT)] + [(IDLE, ())]
        asked = (ALL, ("less", "a", 2), ("same", "a", 3), ("less", "b", 0), ("same", "b", 7), ("is", "idle"))
        for turn in range(300):
            row = [chance.choice(asked) for leaf in range(8)]
            while len(row) > 1:
                row = [(chance.choice(("and", "or")), row[at], row[at + 1]) for at in range(0, len(row), 2)]
            self.check(row[0], events)

    def test_a_leaf_that_stands_often(self):
        for test in (("and", SMALL, SMALL), ("or", SMALL, ("not", SMALL)), ("and", ("or", SMALL, HERE), SMALL)):
            with self.subTest(test):
                self.check(test, [(SEND, values) for values in all_values(SEND)])

    def test_each_list_is_a_new_one(self):
        for test in (ALL, SMALL, ("and", SMALL, HERE)):
            told = deepcopy(made(test))
            made(test)[1].append((SENT, True, False))
            self.assertEqual(made(test), told)


class Shorter(unittest.TestCase):
    ANSWERS = [dict(zip(LEAVES, told)) for told in product((True, False), repeat=3)]

    def check(self, way):
        kept = deepcopy(way)
        told = shorter(way)
        self.assertEqual(str(way), str(kept))
        self.assertIs(is_way(told), True, (way, told))
        self.assertTrue(is_short(told), (way, told))
        self.assertLessEqual(len(told[1]), len(way[1]))
        if is_short(way):
            self.assertEqual(str(told), str(way))
        for asked in self.ANSWERS:
            end, many = goes(told, asked)
            whole_end, whole_many = goes(way, asked)
            self.assertIs(end, whole_end, (way, told))
            self.assertLessEqual(many, whole_many, (way, told))

    def test_without_rows(self):
        for start in (True, False):
            told, rows = shorter((start, []))
            self.assertIs(told, start)
            self.assertEqual(rows, [])

    def test_yes_and_no_alike(self):
        for end in (True, False):
            told, rows = shorter((0, [(SENT, end, end)]))
            self.assertIs(told, end)
            self.assertEqual(rows, [])
        self.assertEqual(shorter((0, [(SENT, 1, 1), (SMALL, True, False)])), (0, [(SMALL, True, False)]))

    def test_rows_that_cannot_be_come_to(self):
        way = (0, [(SENT, True, 2), (HERE, True, 2), (SMALL, True, False), (HERE, False, True)])
        self.assertEqual(shorter(way), (0, [(SENT, True, 1), (SMALL, True, False)]))

    def test_rows_that_are_alike(self):
        way = (0, [(SENT, 1, 2), (SMALL, True, False), (SMALL, True, False)])
        self.assertEqual(shorter(way), (0, [(SMALL, True, False)]))
        way = (0, [(SENT, 1, 2), (HERE, 3, False), (SMALL, True, False), (SMALL, True, False)])
        self.assertEqual(shorter(way), (0, [(SENT, 1, 2), (HERE, 2, False), (SMALL, True, False)]))

    def test_rows_that_become_alike(self):
        way = (0, [(SENT, 1, 2), (HERE, 3, False), (HERE, 4, False), (SMALL, True, False), (SMALL, True, False)])
        self.assertEqual(shorter(way), (0, [(HERE, 1, False), (SMALL, True, False)]))

    def test_row_one_is_not_true(self):
        way = (0, [(SENT, 1, True), (SMALL, True, False)])
        self.assertEqual(str(shorter(way)), str(way))
        way = (0, [(SENT, 1, False), (SMALL, 2, False), (SENT, True, False)])
        self.assertEqual(str(shorter(way)), str(way))

    def test_all_small_ways(self):
        for many in (1, 2):
            for way in all_ways(many, LEAVES):
                self.check(way)
        for way in all_ways(3, LEAVES[:2]):
            self.check(way)

    def test_great_ways(self):
        chance = Random(5)
        for many in (4, 5, 6, 7, 10, 20, 60):
            for turn in range(60):
                self.check(some_way(chance, many))
        self.check(some_way(chance, 400))

    def test_events_tell_the_same(self):
        chance = Random(8)
        for turn in range(40):
            way = some_way(chance, 9)
            told = shorter(way)
            for values in all_values(FREE):
                self.assertIs(run(told, FREE, values), run(way, FREE, values))
                self.assertLessEqual(steps(told, FREE, values), steps(way, FREE, values))

    def test_four_hundred_rows(self):
        # No two of these are alike, since each leads one row further.
        chain = (0, [(SENT, at + 1, False) for at in range(399)] + [(SENT, True, False)])
        self.assertEqual(shorter(chain), chain)
        needless = (0, [(SENT, at + 1, at + 1) for at in range(399)] + [(SMALL, True, False)])
        self.assertEqual(shorter(needless), (0, [(SMALL, True, False)]))

    def test_each_list_is_a_new_one(self):
        way = (0, [(SENT, 1, False), (SMALL, True, False)])
        told = shorter(way)
        self.assertIsNot(told[1], way[1])
        told[1].clear()
        self.assertEqual(len(way[1]), 2)
        empty = (True, [])
        self.assertIsNot(shorter(empty)[1], empty[1])


if __name__ == "__main__":
    unittest.main()
