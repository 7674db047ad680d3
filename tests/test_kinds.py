"""lanescribe.kinds: names, kinds with their fields, values and cells."""

import unittest

from lanescribe.errors import BadBounds, BadName, BadValue, Full, Taken
from lanescribe.kinds import LIMIT, Kind, is_name

SEND = (("size", 0, 9), ("to", 1, 4))
FIVE = tuple((name, 0, 1) for name in "abcde")


class Names(unittest.TestCase):
    def test_limit(self):
        self.assertEqual(LIMIT, 999999)

    def test_one_to_eight_letters(self):
        for text in ("a", "z", "az", "send", "abcdefgh", "zzzzzzzz", "all", "not"):
            with self.subTest(text):
                self.assertIs(is_name(text), True)

    def test_no_letters_and_nine(self):
        for text in ("", "abcdefghi", "a" * 8000):
            with self.subTest(len(text)):
                self.assertIs(is_name(text), False)

    def test_every_other_sign(self):
        for code in list(range(32, 127)) + [10]:
            sign = chr(code)
            for text in (sign, sign + "a", "a" + sign, "a" + sign + "b", "a" * 7 + sign):
                with self.subTest(text):
                    self.assertIs(is_name(text), "a" <= sign <= "z")

    def test_letters_of_other_scripts(self):
        for text in ("\u00e9", "stra\u00dfe", "\u03b1", "\uff41"):
            with self.subTest(text):
                self.assertIs(is_name(text), False)


class Making(unittest.TestCase):
    def test_fields(self):
        kind = Kind("send", SEND)
        self.assertEqual(kind.name, "send")
        self.assertEqual(kind.fields, SEND)
        self.assertIsInstance(kind.fields, tuple)

    def test_fields_may_be_left_out(self):
        self.assertEqual(Kind("idle").fields, ())

    def test_arguments_by_name(self):
        self.assertEqual(Kind(fields=SEND, name="send"), Kind("send", SEND))

    def test_none_to_four_fields(self):
        for many in range(5):
            with self.subTest(many):
                kind = Kind("k", FIVE[:many])
                self.assertEqual(kind.fields, FIVE[:many])
                self.assertEqual(len(kind), many)
                self.assertEqual(kind.cells(), many + 1)

    def test_five_fields_are_too_many(self):
        for fields in (FIVE, FIVE + (("f", 0, 1),)):
            with self.assertRaises(Full) as caught:
                Kind("k", fields)
            self.assertEqual(caught.exception.word, "full")

    def test_wrong_name(self):
        for name in ("", "abcdefghi", "A", "a b", "a\n", "a1"):
            with self.subTest(name), self.assertRaises(BadName) as caught:
                Kind(name)
            self.assertEqual(caught.exception.word, "badname")

    def test_wrong_name_of_a_field(self):
        for name in ("", "abcdefghi", "A", "a b", "a\n", "a1"):
            with self.subTest(name), self.assertRaises(BadName):
                Kind("k", (("a", 0, 1), (name, 0, 1)))

    def test_a_field_may_be_called_like_the_kind(self):
        self.assertEqual(Kind("a", (("a", 0, 1),)).place_of("a"), 0)

    def test_bounds_at_the_limit(self):
        for low, high in ((-LIMIT, LIMIT), (-LIMIT, -LIMIT), (LIMIT, LIMIT), (0, 0), (-1, 1)):
            with self.subTest(low=low, high=high):
                self.assertEqual(Kind("k", (("a", low, high),)).fields, (("a", low, high),))

    def test_bounds_beyond(self):
        rows = (
            (-LIMIT - 1, LIMIT), (-LIMIT, LIMIT + 1), (-LIMIT - 1, -LIMIT - 1), (LIMIT + 1, LIMIT + 1),
            (1, 0), (LIMIT, -LIMIT), (0, -1), (-10 ** 29, 10 ** 29), (0, 10 ** 29), (-10 ** 29, 0),
        )
        for low, high in rows:
            with self.subTest(low=low, high=high), self.assertRaises(BadBounds) as caught:
                Kind("k", (("a", low, high),))
            self.assertEqual(caught.exception.word, "badbounds")

    def test_a_name_twice(self):
        for fields in ((("a", 0, 1), ("a", 0, 1)), (("a", 0, 1), ("b", 0, 1), ("c", 0, 1), ("a", 5, 6))):
            with self.assertRaises(Taken) as caught:
                Kind("k", fields)
            self.assertEqual(caught.exception.word, "taken")

    def test_the_first_refusal_comes(self):
        good, loose, unnamed = ("a", 0, 1), ("b", 1, 0), ("B", 0, 1)
        rows = (
            (BadName, "K", (unnamed,) * 5),
            (BadName, "K", (loose,)),
            (Full, "k", (unnamed,) * 5),
            (Full, "k", (loose,) * 5),
            (Full, "k", (good,) * 5),
            (BadName, "k", (("B", 1, 0),)),
            (Taken, "k", (good, ("a", 1, 0))),
            (BadBounds, "k", (loose, unnamed)),
            (BadBounds, "k", (loose, loose)),
            (BadBounds, "k", (good, loose, good)),
            (BadName, "k", (unnamed, unnamed)),
            (BadName, "k", (unnamed, loose)),
            (Taken, "k", (good, good, loose)),
            (Taken, "k", (good, good, unnamed)),
        )
        for error, name, fields in rows:
            with self.subTest(error=error.__name__, name=name, fields=fields), self.assertRaises(error):
                Kind(name, fields)


class Asking(unittest.TestCase):
    def test_lowest(self):
        self.assertEqual(Kind("send", SEND).lowest(), (0, 1))
        self.assertEqual(Kind("k", (("a", -LIMIT, LIMIT), ("b", 3, 3))).lowest(), (-LIMIT, 3))
        self.assertEqual(Kind("idle").lowest(), ())

    def test_cells(self):
        self.assertEqual(Kind("send", SEND).cells(), 3)
        self.assertEqual(Kind("idle").cells(), 1)

    def test_place_of(self):
        kind = Kind("send", SEND)
        self.assertEqual([kind.place_of(field) for field in ("size", "to")], [0, 1])
        for field in ("send", "", "siz", "sizes", "SIZE", "\n"):
            with self.subTest(field):
                self.assertIsNone(kind.place_of(field))
        self.assertIsNone(Kind("idle").place_of("idle"))

    def test_equal(self):
        kind = Kind("send", SEND)
        self.assertIs(kind == Kind("send", SEND), True)
        self.assertIs(kind != Kind("send", SEND), False)
        others = (
            Kind("sent", SEND), Kind("send", SEND[:1]), Kind("send", SEND[::-1]), Kind("send"),
            Kind("send", (("size", 0, 9), ("to", 1, 5))), Kind("send", (("size", 1, 9), ("to", 1, 4))),
            Kind("send", (("size", 0, 9), ("too", 1, 4))),
            "send", SEND, ("send", SEND), None, 0, 2, str(kind), repr(kind),
        )
        for other in others:
            with self.subTest(repr(other)):
                self.assertIs(kind == other, False)
                self.assertIs(kind != other, True)

    def test_length(self):
        self.assertEqual(len(Kind("send", SEND)), 2)
        self.assertEqual(len(Kind("idle")), 0)

    def test_str(self):
        self.assertEqual(str(Kind("send", SEND)), "send(size 0..9, to 1..4)")
        self.assertEqual(str(Kind("idle")), "idle()")
        self.assertEqual(str(Kind("k", (("a", -5, -3),))), "k(a -5..-3)")

    def test_repr(self):
        self.assertEqual(repr(Kind("send", (("size", 0, 9),))), "Kind('send', (('size', 0, 9),))")
        self.assertEqual(repr(Kind("send", SEND)), "Kind('send', (('size', 0, 9), ('to', 1, 4)))")
        self.assertEqual(repr(Kind("idle")), "Kind('idle', ())")

    def test_questions_change_nothing(self):
        kind = Kind("send", SEND)
        asked = [(kind.lowest(), kind.cells(), kind.place_of("to"), str(kind), repr(kind), len(kind)) for turn in "ab"]
        self.assertEqual(asked[0], asked[1])
        self.assertEqual((kind.name, kind.fields), ("send", SEND))


class Values(unittest.TestCase):
    def setUp(self):
        self.kind = Kind("send", SEND)

    def refused_at(self, values, kind=None):
        with self.assertRaises(BadValue) as caught:
            (self.kind if kind is None else kind).need(values)
        self.assertEqual(caught.exception.word, "badvalue")
        return caught.exception.at

    def test_within_bounds(self):
        for values in ((0, 1), (9, 4), (0, 4), (9, 1), (5, 2)):
            with self.subTest(values):
                self.assertIsNone(self.kind.need(values))

    def test_without_fields(self):
        idle = Kind("idle")
        self.assertIsNone(idle.need(()))
        self.assertEqual(self.refused_at((0,), idle), 0)
        self.assertEqual(self.refused_at((0, 0), idle), 0)

    def test_beyond_bounds(self):
        rows = (
            ((-1, 1), 0), ((10, 1), 0), ((0, 0), 1), ((0, 5), 1), ((-1, 0), 0), ((10, 5), 0),
            ((10 ** 29, 1), 0), ((0, -10 ** 29), 1),
        )
        for values, at in rows:
            with self.subTest(values):
                self.assertEqual(self.refused_at(values), at)

    def test_too_few(self):
        self.assertEqual(self.refused_at(()), 0)
        self.assertEqual(self.refused_at((0,)), 1)

    def test_too_many(self):
        self.assertEqual(self.refused_at((0, 1, 0)), 2)
        self.assertEqual(self.refused_at((0, 1, 0, 0, 0)), 2)

    def test_the_first_wrong_place(self):
        self.assertEqual(self.refused_at((10,)), 0)
        self.assertEqual(self.refused_at((10, 1, 0)), 0)
        self.assertEqual(self.refused_at((0, 5, 0)), 1)

    def test_at_the_limit(self):
        wide = Kind("k", (("a", -LIMIT, LIMIT),))
        self.assertIsNone(wide.need((LIMIT,)))
        self.assertIsNone(wide.need((-LIMIT,)))
        self.assertEqual(self.refused_at((LIMIT + 1,), wide), 0)
        self.assertEqual(self.refused_at((-LIMIT - 1,), wide), 0)

    def test_a_field_of_one_value(self):
        narrow = Kind("k", (("a", 3, 3),))
        self.assertIsNone(narrow.need((3,)))
        self.assertEqual(self.refused_at((2,), narrow), 0)
        self.assertEqual(self.refused_at((4,), narrow), 0)

    def test_a_refusal_changes_nothing(self):
        self.refused_at((10, 5))
        self.assertEqual(self.kind, Kind("send", SEND))
        self.assertIsNone(self.kind.need((0, 1)))


if __name__ == "__main__":
    unittest.main()
