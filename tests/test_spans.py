"""lanescribe.spans: which events open and close spans, which are strays, and what is cut by lost ones."""

import unittest
from itertools import product

from lanescribe.errors import BadPairs
from lanescribe.kinds import Kind
from lanescribe.lanes import Lane
from lanescribe.lookers import Looker
from lanescribe.spans import deepest, spans, strays

from tests.helpers import write

PAIRS = [("a", "b"), ("c", "d")]

NO_PAIRS = (
    [("", "b")], [("a", "")], [("A", "b")], [("a", "B")], [("abcdefghi", "b")], [("a", "abcdefghi")], [("a1", "b")],
    [("a", "b\n")], [("a b", "c")], [("a", "a")], [("a", "b"), ("a", "c")], [("a", "b"), ("c", "b")],
    [("a", "b"), ("b", "c")], [("a", "b"), ("c", "a")], [("a", "b"), ("b", "a")], [("a", "b"), ("a", "b")],
    [("a", "b"), ("c", "d"), ("e", "a")], [("a", "b"), ("c", "D")], [("a", "b")] * 400,
)


def told_of(letters):
    """What a looker was told: an event of the kind of each letter, one lost where a dot stands."""
    told = []
    for place, letter in enumerate(letters):
        told.append(("lost", 1) if letter == "." else ("event", place, 0, letter, ()))
    return told


def plain_spans(letters):
    """The spans and strays of PAIRS, found by reading back from each closing one to what is open there."""
    last, lone = {}, []
    for at, letter in enumerate(letters):
        if letter in "bd":
            inner = around(letters, at, last)
            if inner and letters[inner[-1]] == {"b": "a", "d": "c"}[letter]:
                last[inner[-1]] = at
            else:
                lone.append(at)
    firsts = [at for at, letter in enumerate(letters) if letter in "ac"]
    return [(letters[at], at, last.get(at), len(around(letters, at, last))) for at in firsts], lone


def around(letters, at, last):
    """The places of those that are open ahead of a place."""
    start = letters[:at].rfind(".") + 1
    return [place for place in range(start, at) if letters[place] in "ac" and not last.get(place, at) < at]


class Telling(unittest.TestCase):
    def told(self, letters, found, lone=(), pairs=PAIRS):
        told = told_of(letters)
        self.assertEqual(spans(told, pairs), found, letters)
        self.assertEqual(strays(told, pairs), list(lone), letters)
        depths = [depth for opening, first, last, depth in found]
        self.assertEqual(deepest(told, pairs), max(depths) if depths else None, letters)

    def test_none(self):
        self.told("", [])
        self.told("xyz", [])
        self.told("..", [])
        self.told("ab", [], pairs=[])
        self.assertIsNone(deepest(told_of("bd"), PAIRS))

    def test_one(self):
        self.told("ab", [("a", 0, 1, 0)])
        self.told("xaxxbx", [("a", 1, 4, 0)])

    def test_one_behind_the_other(self):
        self.told("abcdab", [("a", 0, 1, 0), ("c", 2, 3, 0), ("a", 4, 5, 0)])

    def test_within_one_another(self):
        self.told("acdb", [("a", 0, 3, 0), ("c", 1, 2, 1)])
        self.told("aaabbb", [("a", 0, 5, 0), ("a", 1, 4, 1), ("a", 2, 3, 2)])
        self.told("acdacdbb", [("a", 0, 7, 0), ("c", 1, 2, 1), ("a", 3, 6, 1), ("c", 4, 5, 2)])

    def test_closed_by_their_fellow_alone(self):
        self.told("ad", [("a", 0, None, 0)], [1])
        self.told("acbd", [("a", 0, None, 0), ("c", 1, 3, 1)], [2])
        self.told("acbdb", [("a", 0, 4, 0), ("c", 1, 3, 1)], [2])

    def test_strays_change_nothing(self):
        self.told("b", [], [0])
        self.told("bdabb", [("a", 2, 3, 0)], [0, 1, 4])
        self.told("adddb", [("a", 0, 4, 0)], [1, 2, 3])

    def test_open_at_the_end(self):
        self.told("a", [("a", 0, None, 0)])
        self.told("aca", [("a", 0, None, 0), ("c", 1, None, 1), ("a", 2, None, 2)])
        self.told("acd", [("a", 0, None, 0), ("c", 1, 2, 1)])

    def test_all_that_are_open_are_cut_by_lost_ones(self):
        self.told("a.b", [("a", 0, None, 0)], [2])
        self.told("ac.db", [("a", 0, None, 0), ("c", 1, None, 1)], [3, 4])
        self.told("ac.ab", [("a", 0, None, 0), ("c", 1, None, 1), ("a", 3, 4, 0)])
        self.told("ab.cd", [("a", 0, 1, 0), ("c", 3, 4, 0)])
        self.told(".ab", [("a", 1, 2, 0)])
        self.told("a..c.", [("a", 0, None, 0), ("c", 3, None, 0)])

    def test_the_innermost_is_cut_first(self):
        # Each keeps the depth that it had, whichever are cut around it.
        self.told("aac.", [("a", 0, None, 0), ("a", 1, None, 1), ("c", 2, None, 2)])

    def test_all_short_rows(self):
        for many in range(6):
            for letters in product("abcdx.", repeat=many):
                found, lone = plain_spans("".join(letters))
                self.told("".join(letters), found, lone)

    def test_places_of_the_events(self):
        told = [("lost", 7), ("event", 7, 3, "open", (1, 2)), ("event", 8, 3, "shut", ()), ("lost", 90),
                ("event", 99, 9, "shut", ()), ("event", 100, 9, "open", ())]
        pairs = [("open", "shut")]
        self.assertEqual(spans(told, pairs), [("open", 7, 8, 0), ("open", 100, None, 0)])
        self.assertEqual((strays(told, pairs), deepest(told, pairs)), ([99], 0))

    def test_pairs_of_other_kinds(self):
        told = told_of("abcd")
        self.assertEqual(spans(told, [("c", "b"), ("a", "d")]), [("a", 0, None, 0), ("c", 2, None, 1)])
        self.assertEqual(strays(told, [("c", "b"), ("a", "d")]), [1, 3])
        self.assertEqual(spans(told, [("b", "c"), ("a", "d")]), [("a", 0, 3, 0), ("b", 1, 2, 1)])

    def test_what_a_looker_is_told(self):
        lane = Lane(pages=2, room=5)
        kinds = {letter: Kind(letter) for letter in "abx"}
        for letter in "aaaaabaxaabb":
            write(lane, kinds[letter])
        told = Looker(lane).more()
        self.assertEqual(told[0], ("lost", 5))
        self.assertEqual(spans(told, PAIRS), [("a", 6, None, 0), ("a", 8, 11, 1), ("a", 9, 10, 2)])
        self.assertEqual((strays(told, PAIRS), deepest(told, PAIRS)), ([5], 2))


class Refusals(unittest.TestCase):
    def test_no_pairs(self):
        for pairs in NO_PAIRS:
            for ask in (spans, strays, deepest):
                for told in ([], told_of("abcd")):
                    with self.subTest(pairs), self.assertRaises(BadPairs) as caught:
                        ask(told, pairs)
                    self.assertEqual(caught.exception.word, "badpairs")

    def test_names_of_eight_letters(self):
        told = [("event", 0, 0, "abcdefgh", ()), ("event", 1, 0, "bbbbbbbb", ())]
        self.assertEqual(spans(told, [("abcdefgh", "bbbbbbbb")]), [("abcdefgh", 0, 1, 0)])

    def test_handed_in_and_told_lists(self):
        told, pairs = told_of("aabbd."), list(PAIRS)
        for ask in (spans, strays):
            first = ask(told, pairs)
            kept = list(first)
            first.clear()
            self.assertEqual(ask(told, pairs), kept)
        deepest(told, pairs)
        self.assertEqual((told, pairs), (told_of("aabbd."), PAIRS))


if __name__ == "__main__":
    unittest.main()
