"""Long rows of deeds on a lane, each answer compared with that of a plain lane that forgets nothing."""

import unittest
from copy import deepcopy
from random import Random

from lanescribe.errors import Missing, ScribeError
from lanescribe.lanes import Lane
from lanescribe.lookers import Looker

from tests.helpers import KINDS, PlainLane, shown


def answer(lane, name, *handed):
    """What a deed tells, or the word of its refusal."""
    try:
        return getattr(lane, name)(*handed)
    except (ScribeError, Missing) as error:
        return error.word


class Walks(unittest.TestCase):
    def compare(self, lane, plain, done):
        self.assertEqual(shown(lane), shown(plain), done)
        for place in (0, 1, len(done) // 2):
            looker = Looker(lane)
            looker.back(place)
            self.assertEqual(looker.more(), plain.seen_from(place), done)

    def do(self, lane, plain, deed, done):
        self.assertEqual(answer(lane, *deed), answer(plain, *deed), done)
        self.compare(lane, plain, done)

    def walk_all(self, lane, plain, deeds, many, done):
        """Each row of so many of these deeds, from a twin each time."""
        if many == 0:
            return
        for deed in deeds(plain):
            twin, other = lane.twin(), deepcopy(plain)
            self.do(twin, other, deed, done + [deed])
            self.walk_all(twin, other, deeds, many - 1, done + [deed])

    def test_all_short_rows_of_deeds(self):
        def deeds(plain):
            top = (plain.pending() or [0])[-1]
            return (("claim", KINDS[1], 0), ("claim", KINDS[3], 0), ("give", top), ("throw", top), ("take",),
                    ("resize", 2))

        for over in (True, False):
            self.walk_all(Lane(pages=2, room=5, over=over), PlainLane(2, 5, over), deeds, 5, [])

    def test_all_rows_behind_a_held_page_with_an_open_claim(self):
        def deeds(plain):
            top = (plain.pending() or [0])[-1]
            return (("claim", KINDS[4], 0), ("give", top), ("throw", top), ("take",))

        lane, plain = Lane(pages=2, room=5), PlainLane(2, 5, True)
        for deed in (("claim", KINDS[0], 0), ("give", 1), ("claim", KINDS[0], 0), ("take",)):
            self.do(lane, plain, deed, [deed])
        self.walk_all(lane, plain, deeds, 7, [])

    def some_deed(self, chance, plain):
        tickets = plain.pending()
        ticket = tickets[-1] if tickets and chance.random() < 0.85 else chance.randrange(len(plain.claims) + 2)
        word = chance.choice(self.words)
        if word == "claim":
            last = plain.claims[-1]["time"] if plain.claims else 0
            return ("claim", chance.choice(KINDS), last + chance.choice((0, 0, 1, 5, -1)))
        if word == "fill":
            return ("fill", ticket, tuple(chance.randrange(-1, 11) for value in range(chance.randrange(5))))
        if word == "resize":
            return ("resize", chance.choice((2, 2, 3, 4, 6)))
        return ("take",) if word == "take" else (word, ticket)

    def walk_by_chance(self, seed, words):
        chance = Random(seed)
        self.words = words
        for over in (True, False):
            for room in (5, 6, 8, 12):
                pages = chance.choice((2, 3, 4))
                lane, plain = Lane(pages=pages, room=room, over=over), PlainLane(pages, room, over)
                done = []
                for turn in range(150):
                    deed = self.some_deed(chance, plain)
                    done.append(deed)
                    self.do(lane, plain, deed, done)
                    if chance.random() < 0.1:
                        lane = lane.twin()

    def test_by_chance_with_few_open_claims(self):
        self.walk_by_chance(1, ("claim", "claim", "give", "give", "give", "throw", "fill", "take", "resize"))

    def test_by_chance_with_many_open_claims(self):
        self.walk_by_chance(2, ("claim", "claim", "claim", "give", "throw", "give", "take"))

    def test_by_chance_with_many_takings(self):
        self.walk_by_chance(3, ("claim", "claim", "give", "give", "throw", "take", "take"))

    def test_by_chance_with_many_pages_lost(self):
        self.walk_by_chance(4, ("claim", "give") * 8 + ("throw", "take", "resize"))


class Lookers(unittest.TestCase):
    def test_lookers_that_go_on_beside_the_deeds(self):
        for seed in range(12):
            chance = Random(seed)
            over = seed % 3 > 0
            lane, plain = Lane(pages=2, room=6, over=over), PlainLane(2, 6, over)
            lookers = [[Looker(lane), 0] for number in range(3)]
            for turn in range(200):
                word = chance.choice(("claim", "claim", "give", "give", "throw", "take", "look", "look"))
                top = (plain.pending() or [0])[-1]
                if word == "look":
                    self.ask(chance.choice(lookers), plain, chance.choice((0, 1, 2, 3, 400)))
                else:
                    deed = {"claim": ("claim", chance.choice(KINDS), turn), "take": ("take",)}.get(word, (word, top))
                    self.assertEqual(answer(lane, *deed), answer(plain, *deed))
                self.assertEqual(shown(lane), shown(plain))

    def ask(self, pair, plain, most):
        looker, place = pair
        told = plain.seen_from(place)[:most]
        self.assertEqual(looker.more(most=most), told)
        pair[1] += sum(thing[1] if thing[0] == "lost" else 1 for thing in told)
        self.assertEqual(looker.place(), pair[1])


if __name__ == "__main__":
    unittest.main()
