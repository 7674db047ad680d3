"""lanescribe.sieve: which tuples are tests, which events pass them, and what parts two of them."""

import unittest

from lanescribe.errors import BadTest, BadValue
from lanescribe.kinds import LIMIT, Kind
from lanescribe.sieve import holds, is_test, leaves, parted, read_test, test_text

from tests.helpers import ALL, NO_TESTS, all_values, bushy, nots, tests_upto

WORDS = ("all", "is", "less", "same", "not", "and", "or")
SEND = Kind("send", (("size", 0, 9), ("to", 1, 4)))
IDLE = Kind("idle")
SMALL = ("less", "size", 5)
HERE = ("same", "to", 2)


class IsTest(unittest.TestCase):
    def test_each_form(self):
        rows = (
            ALL, ("is", "send"), SMALL, HERE, ("not", ALL), ("and", ALL, SMALL), ("or", HERE, ("is", "a")),
            ("less", "abcdefgh", LIMIT), ("less", "a", -LIMIT), ("same", "a", LIMIT), ("same", "a", -LIMIT),
        )
        for test in rows:
            with self.subTest(test):
                self.assertIs(is_test(test), True)

    def test_no_tests(self):
        for test in NO_TESTS:
            with self.subTest(test):
                self.assertIs(is_test(test), False)

    def test_true_and_false_are_no_numbers(self):
        self.assertIs(is_test(("less", "a", True)), False)
        self.assertIs(is_test(("same", "a", False)), False)

    def test_names_like_the_forms_own_words(self):
        for word in WORDS:
            for test in (("is", word), ("less", word, 1), ("same", word, 1), ("not", ("is", word))):
                with self.subTest(test):
                    self.assertIs(is_test(test), True)

    def test_depth(self):
        for depth in range(1, 6):
            self.assertIs(is_test(nots(depth)), True)
        for depth in (6, 7, 100):
            self.assertIs(is_test(nots(depth)), False)

    def test_depth_on_either_side(self):
        for form in ("and", "or"):
            for deep, told in ((nots(4), True), (nots(5), False)):
                with self.subTest(form=form, told=told):
                    self.assertIs(is_test((form, deep, ALL)), told)
                    self.assertIs(is_test((form, ALL, deep)), told)

    def test_parts(self):
        for parts in range(1, 16):
            with self.subTest(parts):
                self.assertIs(is_test(bushy(parts)), True)
        for parts in (16, 17):
            with self.subTest(parts):
                self.assertIs(is_test(bushy(parts)), False)

    def test_fifteen_parts_five_deep(self):
        half = ("or", nots(3), nots(3))
        self.assertIs(is_test(("and", half, half)), True)
        sixteen = ("and", half, ("or", nots(3), ("and", ALL, nots(2))))
        self.assertIs(is_test(sixteen), False)


class Refusing(unittest.TestCase):
    def test_all_defs_refuse_no_tests(self):
        for test in NO_TESTS + (nots(6), bushy(16)):
            asks = (
                lambda: leaves(test),
                lambda: test_text(test),
                lambda: holds(test, IDLE, ()),
                lambda: parted(test, ALL, IDLE),
                lambda: parted(ALL, test, IDLE),
                lambda: parted(test, test, SEND),
            )
            for number, ask in enumerate(asks):
                with self.subTest(test=test, ask=number), self.assertRaises(BadTest) as caught:
                    ask()
                self.assertEqual(caught.exception.word, "badtest")

    def test_bad_test_comes_ahead_of_bad_value(self):
        for test in ((), ("some",), nots(6), bushy(16)):
            with self.subTest(test), self.assertRaises(BadTest):
                holds(test, SEND, (10, 5))

    def test_values_are_refused_as_by_need(self):
        rows = (((10, 1), 0), ((0, 0), 1), ((0,), 1), ((), 0), ((0, 1, 2), 2), ((-1, 1, 2), 0))
        for values, at in rows:
            for test in (ALL, ("is", "idle"), ("or", ALL, SMALL), ("and", ("is", "idle"), SMALL)):
                with self.subTest(values=values, test=test), self.assertRaises(BadValue) as caught:
                    holds(test, SEND, values)
                self.assertEqual(caught.exception.at, at)


class Leaves(unittest.TestCase):
    def test_a_leaf_by_itself(self):
        for leaf in (ALL, ("is", "not"), SMALL, HERE):
            with self.subTest(leaf):
                self.assertEqual(leaves(leaf), [leaf])

    def test_from_the_left_each_as_often_as_it_stands(self):
        test = ("or", ("and", SMALL, ("not", ALL)), ("and", ("not", HERE), ("or", SMALL, ("is", "a"))))
        self.assertEqual(leaves(test), [SMALL, ALL, HERE, SMALL, ("is", "a")])
        self.assertEqual(leaves(("not", ("not", SMALL))), [SMALL])
        self.assertEqual(leaves(bushy(15)), [ALL] * 8)

    def test_each_list_is_a_new_one(self):
        test = ("and", SMALL, HERE)
        told = leaves(test)
        told.append(ALL)
        self.assertEqual(leaves(test), [SMALL, HERE])
        self.assertEqual(test, ("and", SMALL, HERE))


class Holds(unittest.TestCase):
    def check(self, test, kind, values, told):
        with self.subTest(test=test, kind=str(kind), values=values):
            self.assertIs(holds(test, kind, values), told)

    def test_all(self):
        self.check(ALL, SEND, (0, 1), True)
        self.check(ALL, IDLE, (), True)

    def test_is(self):
        self.check(("is", "send"), SEND, (0, 1), True)
        self.check(("is", "sen"), SEND, (0, 1), False)
        self.check(("is", "size"), SEND, (0, 1), False)
        self.check(("is", "send"), IDLE, (), False)

    def test_less(self):
        for value in range(10):
            self.check(SMALL, SEND, (value, 1), value < 5)
        for value in range(1, 5):
            self.check(("less", "to", 3), SEND, (0, value), value < 3)
        self.check(("less", "size", LIMIT), SEND, (9, 1), True)
        self.check(("less", "size", -LIMIT), SEND, (0, 1), False)
        self.check(("less", "size", 0), SEND, (0, 1), False)

    def test_same(self):
        for value in range(1, 5):
            self.check(HERE, SEND, (0, value), value == 2)
        self.check(("same", "size", 2), SEND, (0, 2), False)
        self.check(("same", "size", 10), SEND, (9, 1), False)

    def test_fields_that_the_kind_lacks(self):
        for form in ("less", "same"):
            for number in (-LIMIT, -1, 0, 1, LIMIT):
                self.check((form, "far", number), SEND, (0, 1), False)
                self.check((form, "size", number), IDLE, (), False)
                self.check(("not", (form, "far", number)), SEND, (0, 1), True)
        self.check(("less", "send", LIMIT), SEND, (0, 1), False)

    def test_not_and_or(self):
        yes, no = ALL, ("not", ALL)
        self.check(no, IDLE, (), False)
        self.check(("not", no), IDLE, (), True)
        for one in (yes, no):
            for other in (yes, no):
                both = (one == yes, other == yes)
                self.check(("and", one, other), IDLE, (), all(both))
                self.check(("or", one, other), IDLE, (), any(both))

    def test_deep(self):
        test = ("and", ("or", SMALL, HERE), ("not", ("and", SMALL, HERE)))
        for values in all_values(SEND):
            self.check(test, SEND, values, (values[0] < 5) != (values[1] == 2))

    def test_names_like_the_forms_own_words(self):
        for word in WORDS:
            kind = Kind(word, ((word, -1, 1),))
            self.check(("is", word), kind, (0,), True)
            self.check(("less", word, 1), kind, (0,), True)
            self.check(("less", word, 0), kind, (0,), False)
            self.check(("same", word, 0), kind, (0,), True)
            self.check(("not", ("same", word, 0)), kind, (0,), False)

    def test_nothing_handed_in_is_changed(self):
        kind = Kind("send", SEND.fields)
        holds(("and", SMALL, HERE), kind, (1, 2))
        parted(SMALL, HERE, kind)
        self.assertEqual(kind, SEND)


class Parted(unittest.TestCase):
    def test_nothing_parts_them(self):
        rows = (
            (ALL, ALL), (SMALL, SMALL), (ALL, ("is", "send")), (ALL, ("less", "size", 10)),
            (("not", ALL), ("less", "size", 0)), (("not", ALL), ("same", "far", 1)),
            (("less", "to", 2), ("same", "to", 1)), (("not", ("not", HERE)), HERE),
            (("same", "size", 10), ("same", "size", -1)), (("is", "idle"), ("less", "to", 1)),
        )
        for one, other in rows:
            with self.subTest(one=one, other=other):
                self.assertIsNone(parted(one, other, SEND))
                self.assertIsNone(parted(other, one, SEND))

    def test_the_least_values(self):
        rows = (
            (ALL, ("not", ALL), (0, 1)),
            (SMALL, ALL, (5, 1)),
            (SMALL, ("not", ALL), (0, 1)),
            (HERE, ("not", ALL), (0, 2)),
            (HERE, ALL, (0, 1)),
            (SMALL, ("less", "size", 4), (4, 1)),
            (("same", "size", 0), ALL, (1, 1)),
            (("same", "size", 9), ("not", ALL), (9, 1)),
            (("less", "to", 4), ALL, (0, 4)),
            (("and", ("same", "size", 7), ("same", "to", 3)), ("not", ALL), (7, 3)),
            (("or", ("same", "size", 0), ("and", ("same", "size", 1), ("less", "to", 3))), ALL, (1, 3)),
        )
        for one, other, values in rows:
            with self.subTest(one=one, other=other):
                self.assertEqual(parted(one, other, SEND), values)
                self.assertEqual(parted(other, one, SEND), values)

    def test_kinds_without_fields(self):
        self.assertEqual(parted(ALL, ("not", ALL), IDLE), ())
        self.assertEqual(parted(("is", "idle"), ("less", "a", 1), IDLE), ())
        self.assertIsNone(parted(ALL, ("is", "idle"), IDLE))
        self.assertIsNone(parted(("is", "send"), ("same", "a", 1), IDLE))

    def test_bounds_at_the_limit(self):
        wide = Kind("k", (("a", -LIMIT, LIMIT), ("b", -LIMIT, LIMIT), ("c", -LIMIT, LIMIT), ("d", -LIMIT, LIMIT)))
        none = ("not", ALL)
        rows = (
            (ALL, none, (-LIMIT,) * 4),
            (("same", "d", LIMIT), none, (-LIMIT, -LIMIT, -LIMIT, LIMIT)),
            (("less", "a", LIMIT), ALL, (LIMIT, -LIMIT, -LIMIT, -LIMIT)),
            (("less", "a", -LIMIT), none, None),
            (("less", "b", 1 - LIMIT), ALL, (-LIMIT, 1 - LIMIT, -LIMIT, -LIMIT)),
            (("same", "a", -LIMIT), ALL, (1 - LIMIT, -LIMIT, -LIMIT, -LIMIT)),
            (("same", "a", LIMIT), ("not", ("less", "a", LIMIT)), None),
            (("same", "c", 17), ("and", ("less", "c", 18), ("not", ("less", "c", 17))), None),
            (("and", ("same", "a", 5), ("same", "d", -7)), none, (5, -LIMIT, -LIMIT, -7)),
        )
        for one, other, values in rows:
            with self.subTest(one=one, other=other):
                self.assertEqual(parted(one, other, wide), values)

    def test_many_leaves_on_four_wide_fields(self):
        wide = Kind("k", tuple((name, -LIMIT, LIMIT) for name in "abcd"))
        low = [("same", name, number) for name in "abcd" for number in (1, 3)]
        high = [("same", name, number) for name in "abcd" for number in (5, 7)]
        self.assertEqual(parted(tower("or", low), tower("or", high), wide), (-LIMIT, -LIMIT, -LIMIT, 1))
        self.assertIsNone(parted(tower("and", low), tower("and", high), wide))

    def test_against_a_walk_over_all_values(self):
        kind = Kind("k", (("a", -1, 2), ("b", 0, 2)))
        tests = tests_upto((ALL, ("less", "a", 1), ("same", "a", 0), ("same", "b", 1), ("less", "b", 2)), 2)
        every = list(all_values(kind))
        answers = {test: [holds(test, kind, values) for values in every] for test in tests}
        for one in tests:
            for other in tests:
                apart = [values for values, x, y in zip(every, answers[one], answers[other]) if x != y]
                self.assertEqual(parted(one, other, kind), apart[0] if apart else None, (one, other))


class Texts(unittest.TestCase):
    ROWS = (
        (ALL, "all"), (("is", "send"), "is:send"), (SMALL, "size<5"), (HERE, "to=2"),
        (("less", "a", 0), "a<0"), (("less", "a", -1), "a<-1"), (("same", "a", LIMIT), "a=999999"),
        (("same", "a", -LIMIT), "a=-999999"), (("not", ALL), "not(all)"), (("and", SMALL, HERE), "and(size<5,to=2)"),
        (("or", ("not", ("is", "a")), ("and", ALL, ("same", "b", -10))), "or(not(is:a),and(all,b=-10))"),
        (nots(5), "not(not(not(not(all))))"),
        (bushy(15), "and(and(and(all,all),and(all,all)),and(and(all,all),and(all,all)))"),
    )

    def test_rows(self):
        for test, text in self.ROWS:
            with self.subTest(text):
                self.assertEqual(test_text(test), text)
                self.assertEqual(read_test(text), test)

    def test_names_like_the_forms_own_words(self):
        for word in WORDS:
            for test, text in ((("is", word), f"is:{word}"), (("less", word, 3), f"{word}<3"),
                               (("same", word, -3), f"{word}=-3"), (("not", ("same", word, 0)), f"not({word}=0)"),
                               (("or", ("is", word), ("less", word, 1)), f"or(is:{word},{word}<1)")):
                with self.subTest(text):
                    self.assertEqual(test_text(test), text)
                    self.assertEqual(read_test(text), test)

    def test_there_and_back(self):
        for test in tests_upto((ALL, ("is", "all"), ("less", "is", -2), ("same", "not", 30)), 3):
            self.assertEqual(read_test(test_text(test)), test)

    def test_what_is_nearly_a_text(self):
        texts = (
            "", " ", "\n", "all ", " all", "all\n", "\nall", "All", "alll", "al", "all,", "all)", "all()", "(all)",
            "all:a", "allall", "all,all", "is", "is:", "is:A", "is:a1", "is: a", "is :a", "is:a ", "is:abcdefghi",
            "is:a:b", "is::a", "is(a)", "iss:a", "not:a", "is:a,", "is:a)", ":a", "a", "send", "abcdefghi<1",
            "a<", "a=", "<5", "=5", "a<b", "a<05", "a<00", "a<-0", "a<-05", "a<+5", "a<--5", "a<- 5", "a< 5", "a <5",
            "a<5 ", "a<5\n", "a\n<5", "a<5.", "a<5a", "a<=5", "a>5", "a==5", "a<5<6", "a<-", "a=0x1", "a=1_0",
            "a<1000000", "a=-1000000", "a=" + "9" * 30, "a=" + "9" * 7000, "a=" + "0" * 7000, "A<5", "a1<5",
            "not", "not(", "not()", "not(all", "not all", "not(all))", "not((all))", "not(all,all)", "not(all,)",
            "not (all)", "not( all)", "not(all )", "not(all)all", "not(all)\n", "not)all(", "nor(all)",
            "and", "and()", "and(all)", "and(all,)", "and(,all)", "and(,)", "and(all,all", "and(all,all))",
            "and(all,all,all)", "and(all, all)", "and(all ,all)", "and(all;all)", "and(all,all),", "and((all,all))",
            "and(all,,all)", "and(allall)", "or", "or(all)", "or(all,all", "or(all,all,all)", "or(all,\nall)",
            "all(all,all)", "is(all,all)", "less(a,5)", "same(a,5)", "('all',)", "OR(all,all)",
        )
        for text in texts:
            with self.subTest(text), self.assertRaises(BadTest) as caught:
                read_test(text)
            self.assertEqual(caught.exception.word, "badtest")

    def test_too_deep(self):
        for depth in (6, 7, 1999):
            with self.subTest(depth), self.assertRaises(BadTest):
                read_test("not(" * (depth - 1) + "all" + ")" * (depth - 1))
        for text in ("not(" * 2000, "and(" * 2000, "or(all," * 1000, "(" * 8000, "a" * 8000):
            with self.subTest(text[:20]), self.assertRaises(BadTest):
                read_test(text)

    def test_too_many_parts(self):
        four = "and(and(all,all),and(all,all))"
        self.assertEqual(test_text(read_test(f"or({four},{four})")), f"or({four},{four})")
        for text in (f"not(or({four},{four}))", f"or({four},and(and(all,all),and(all,not(all))))"):
            with self.subTest(text), self.assertRaises(BadTest):
                read_test(text)

    def test_a_text_that_is_read_is_its_tests_text(self):
        for test, text in self.ROWS:
            for near in texts_near(text):
                try:
                    told = read_test(near)
                except BadTest:
                    continue
                self.assertIs(is_test(told), True, near)
                self.assertEqual(test_text(told), near)


def texts_near(text):
    """All texts that one sign taken away, put in or changed makes of a text."""
    for at in range(len(text) + 1):
        yield text[:at] + text[at + 1:]
        for sign in "az09-+:<=(), \nA":
            yield text[:at] + sign + text[at:]
            yield text[:at] + sign + text[at + 1:]


def tower(form, row):
    """One test of eight leaves, all bound by one form."""
    while len(row) > 1:
        row = [(form, row[at], row[at + 1]) for at in range(0, len(row), 2)]
    return row[0]


if __name__ == "__main__":
    unittest.main()
