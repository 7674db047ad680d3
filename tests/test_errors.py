"""The classes of lanescribe.errors: what each stands under, its word, and its fields."""

import unittest

from lanescribe import errors

PLAIN = (
    "BadName BadBounds BadTest BadWay BadSize BadTime BadKeys BadTie BadCause BadPairs "
    "Taken Full NotTop Stopped Busy NothingLeft"
).split()
MISSING = "NoLane NoKind NoTicket NoTally".split()


class Bases(unittest.TestCase):
    def test_scribe_error_stands_straight_under_value_error(self):
        self.assertEqual(errors.ScribeError.__bases__, (ValueError,))

    def test_missing_stands_straight_under_lookup_error(self):
        self.assertEqual(errors.Missing.__bases__, (LookupError,))
        self.assertFalse(issubclass(errors.Missing, ValueError))

    def test_refusals_stand_straight_under_scribe_error(self):
        for name in PLAIN + ["BadValue", "BadDump", "Broken"]:
            with self.subTest(name):
                self.assertEqual(getattr(errors, name).__bases__, (errors.ScribeError,))

    def test_missing_things_stand_straight_under_missing(self):
        for name in MISSING:
            with self.subTest(name):
                self.assertEqual(getattr(errors, name).__bases__, (errors.Missing,))


class Fields(unittest.TestCase):
    def test_word_is_the_name_in_small_letters(self):
        for name in PLAIN + MISSING + ["ScribeError", "Missing"]:
            with self.subTest(name):
                made = getattr(errors, name)
                self.assertEqual(made.__name__, name)
                self.assertEqual(made().word, name.lower())
                self.assertEqual(made("some words").word, name.lower())
                self.assertEqual(str(made("some words")), "some words")

    def test_bad_value_tells_at(self):
        error = errors.BadValue(3)
        self.assertEqual((error.word, error.at), ("badvalue", 3))

    def test_bad_dump_tells_row(self):
        error = errors.BadDump(7)
        self.assertEqual((error.word, error.row), ("baddump", 7))

    def test_broken_tells_step_and_why(self):
        error = errors.Broken(2, "nolane")
        self.assertEqual((error.word, error.step, error.why), ("broken", 2, "nolane"))


if __name__ == "__main__":
    unittest.main()
