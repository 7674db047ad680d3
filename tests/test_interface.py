"""The names, arguments and defaults of the interface, as they are told."""

import inspect
import unittest

from lanescribe import kinds, sieve


def arguments(thing):
    return str(inspect.signature(thing))


class Interface(unittest.TestCase):
    def test_kinds(self):
        self.assertEqual(arguments(kinds.is_name), "(text)")
        self.assertEqual(arguments(kinds.Kind), "(name, fields=())")
        kind = kinds.Kind("k")
        self.assertEqual(arguments(kind.lowest), "()")
        self.assertEqual(arguments(kind.cells), "()")
        self.assertEqual(arguments(kind.place_of), "(field)")
        self.assertEqual(arguments(kind.need), "(values)")

    def test_sieve(self):
        self.assertEqual(arguments(sieve.is_test), "(test)")
        self.assertEqual(arguments(sieve.leaves), "(test)")
        self.assertEqual(arguments(sieve.test_text), "(test)")
        self.assertEqual(arguments(sieve.read_test), "(text)")
        self.assertEqual(arguments(sieve.holds), "(test, kind, values)")
        self.assertEqual(arguments(sieve.parted), "(one, other, kind)")


if __name__ == "__main__":
    unittest.main()
