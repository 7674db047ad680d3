"""lanescribe.lanes, the readers' side: whole events, takings, lanes made shorter and longer, twins and questions."""

import unittest

from lanescribe.errors import BadSize, BadTime, Busy
from lanescribe.kinds import Kind
from lanescribe.lanes import Lane

from tests.helpers import KINDS, Case, all_taken, places, shown, write

SEND = Kind("send", (("size", 0, 9), ("to", 1, 4)))
# KINDS[n] takes n + 1 cells; FULL fills a page of five cells.
IDLE, TWO, THREE, FOUR, FULL = KINDS
NIL = (0, 0, 0, 0)


class Whole(Case):
    def test_places_follow_the_claims(self):
        lane = Lane()
        for time in (1, 2, 3):
            lane.claim(IDLE, time)
        for ticket in (3, 2):
            lane.give(ticket)
            self.assertEqual((lane.look(), len(lane), lane.take()), ([], 0, None))
        lane.give(1)
        self.assertEqual(lane.look(), [("event", place, place + 1, "a", ()) for place in range(3)])
        self.assertEqual(len(lane), 3)

    def test_a_claim_that_is_thrown_back_has_no_place(self):
        lane = Lane()
        for time in (1, 2, 3):
            lane.claim(IDLE, time)
        lane.give(3)
        lane.throw(2)
        lane.give(1)
        self.assertEqual(lane.look(), [("event", 0, 1, "a", ()), ("event", 1, 3, "a", ())])

    def test_events_ahead_of_an_open_claim_are_whole(self):
        lane = Lane()
        write(lane, IDLE, 1)
        lane.claim(IDLE, 2)
        write(lane, IDLE, 3)
        self.assertEqual((lane.look(), len(lane)), ([("event", 0, 1, "a", ())], 1))
        self.assertEqual(lane.take(), ("event", 0, 1, "a", ()))
        self.assertIsNone(lane.take())
        lane.give(2)
        self.assertEqual(lane.take(), ("event", 1, 2, "a", ()))
        self.assertEqual(lane.take(), ("event", 2, 3, "a", ()))

    def test_an_open_claim_in_an_elder_page(self):
        lane = Lane(room=5)
        lane.claim(FULL, 0)
        write(lane, FULL)
        self.assertEqual((lane.look(), len(lane), lane.take()), ([], 0, None))
        lane.throw(1)
        self.assertEqual(places(lane.look()), [0])

    def test_lost_events_keep_their_places(self):
        lane = Lane(pages=2, room=5)
        for time in range(4):
            write(lane, FULL, time)
        self.assertEqual(lane.look(), [("lost", 2), ("event", 2, 2, "e", NIL), ("event", 3, 3, "e", NIL)])


class Taking(Case):
    def test_one_after_the_other(self):
        lane = Lane()
        write(lane, SEND, 3, (4, 2))
        write(lane, IDLE, 5)
        self.assertEqual(lane.take(), ("event", 0, 3, "send", (4, 2)))
        self.assertEqual((len(lane), places(lane.look())), (1, [1]))
        self.assertEqual(lane.take(), ("event", 1, 5, "a", ()))
        self.assertIsNone(lane.take())
        write(lane, IDLE, 6)
        self.assertEqual(lane.take(), ("event", 2, 6, "a", ()))
        self.assertIsNone(lane.take())

    def test_lost_events_are_told_once(self):
        lane = Lane(pages=2, room=5)
        for turn in range(5):
            write(lane, FULL)
        self.assertEqual(places(all_taken(lane)), [("lost", 3), 3, 4])
        self.assertIsNone(lane.take())

    def test_more_are_lost_between_two_takings(self):
        lane = Lane(pages=2, room=5)
        for turn in range(4):
            write(lane, FULL)
        self.assertEqual(lane.take(), ("lost", 2))
        self.assertEqual(places(lane.look()), [2, 3])
        for turn in range(3):
            write(lane, FULL)
        self.assertEqual(lane.take(), ("lost", 3))
        self.assertEqual(lane.take(), ("event", 5, 0, "e", NIL))

    def test_telling_what_was_lost_holds_no_page(self):
        lane = Lane(pages=2, room=5)
        for turn in range(3):
            write(lane, FULL)
        lane.take()
        self.assertEqual(lane.pages_now(), [5, 5])
        write(lane, FULL)
        self.assertEqual((lane.pages_now(), lane.counts()), ([5, 5], (4, 0, 2, 0)))

    def test_lost_events_behind_the_held_page(self):
        lane = Lane(pages=2, room=5)
        write(lane, IDLE)
        lane.take()
        for turn in range(4):
            write(lane, FULL)
        self.assertEqual(lane.take(), ("lost", 2))
        self.assertEqual(lane.pages_now(), [1, 5, 5])
        self.assertEqual(lane.take(), ("event", 3, 0, "e", NIL))
        self.assertEqual(lane.pages_now(), [5, 5])

    def test_lost_ones_are_told_ahead_of_a_whole_event_alone(self):
        lane = Lane(pages=2, room=5)
        write(lane, FULL, 1)
        lane.claim(FULL, 2)
        write(lane, FULL, 3)
        self.assertEqual(lane.counts(), (2, 0, 1, 0))
        self.assertEqual((lane.take(), lane.look(), len(lane)), (None, [], 0))
        lane.give(2)
        rest = [("lost", 1), ("event", 1, 2, "e", NIL), ("event", 2, 3, "e", NIL)]
        self.assertEqual((lane.look(), len(lane)), (rest, 2))
        self.assertEqual(all_taken(lane), rest)

    def test_lost_ones_without_any_event_left(self):
        lane = Lane(pages=2, room=5)
        write(lane, FULL)
        lane.claim(FULL, 0)
        lane.claim(FULL, 0)
        lane.throw(3)
        lane.throw(2)
        self.assertEqual((lane.counts(), lane.take(), lane.look()), ((1, 2, 1, 0), None, []))

    def held_with_an_open_claim(self):
        """Event 0 was taken; an open claim is behind it in the held page, and the event behind this one is lost."""
        lane = Lane(pages=2, room=6)
        write(lane, IDLE, 1)
        lane.claim(IDLE, 2)
        lane.take()
        for time in (3, 4, 5):
            write(lane, FULL, time)
        self.assertEqual((lane.counts(), lane.take(), lane.look()), ((4, 0, 1, 0), None, []))
        return lane

    def test_lost_behind_an_open_claim_that_is_given_in(self):
        lane = self.held_with_an_open_claim()
        lane.give(2)
        rest = [("event", 1, 2, "a", ()), ("lost", 1), ("event", 3, 4, "e", NIL), ("event", 4, 5, "e", NIL)]
        self.assertEqual(lane.look(), rest)
        self.assertEqual(all_taken(lane), rest)

    def test_lost_behind_an_open_claim_that_is_thrown_back(self):
        lane = self.held_with_an_open_claim()
        lane.throw(2)
        rest = [("lost", 1), ("event", 2, 4, "e", NIL), ("event", 3, 5, "e", NIL)]
        self.assertEqual(lane.look(), rest)
        self.assertEqual(all_taken(lane), rest)

    def test_pages_ahead_of_the_held_one_leave(self):
        lane = Lane(pages=4, room=5)
        for turn in range(4):
            write(lane, FOUR)
        self.assertEqual(places([lane.take()]), [0])
        self.assertEqual(lane.pages_now(), [4, 4, 4, 4])
        self.assertEqual(places([lane.take(), lane.take()]), [1, 2])
        self.assertEqual((lane.pages_now(), lane.counts()), ([4, 4], (4, 0, 0, 0)))
        self.assertEqual(repr(lane), "Lane(2 pages, 1 whole)")

    def test_a_page_of_thrown_back_cells_leaves_too(self):
        lane = Lane(pages=4, room=5)
        write(lane, FOUR)
        lane.claim(FOUR, 0)
        write(lane, FOUR)
        lane.throw(2)
        self.assertEqual(lane.pages_now(), [4, 4, 4])
        lane.take()
        self.assertEqual(lane.pages_now(), [4, 4, 4])
        lane.take()
        self.assertEqual((lane.pages_now(), lane.counts()), ([4], (2, 1, 0, 0)))

    def test_taking_makes_room(self):
        lane = Lane(pages=2, room=5, over=False)
        write(lane, FULL)
        write(lane, FULL)
        self.assertIsNone(write(lane, FULL))
        lane.take()
        self.assertEqual(write(lane, FULL), 4)
        self.assertIsNone(write(lane, FULL))
        self.assertEqual(places(all_taken(lane)), [1, 2])
        self.assertEqual((lane.pages_now(), lane.counts()), ([5], (3, 0, 0, 2)))

    def test_none_changes_nothing(self):
        lane = Lane()
        write(lane, IDLE)
        lane.take()
        ahead = shown(lane)
        self.assertIsNone(lane.take())
        self.assertEqual(shown(lane), ahead)


class Sizes(Case):
    def full_lane(self, pages=4):
        lane = Lane(pages=pages, room=5)
        for turn in range(pages):
            write(lane, TWO)
            write(lane, THREE)
        return lane

    def test_shorter(self):
        lane = self.full_lane()
        self.assertIsNone(lane.resize(2))
        self.assertEqual((lane.pages_now(), lane.counts()), ([5, 5], (8, 0, 4, 0)))
        self.assertEqual(places(lane.look()), [("lost", 4), 4, 5, 6, 7])
        write(lane, FULL)
        self.assertEqual((lane.pages_now(), lane.counts()), ([5, 5], (9, 0, 6, 0)))

    def test_shorter_without_pages_to_lose(self):
        lane = Lane(pages=4, room=5)
        write(lane, FULL)
        write(lane, FULL)
        lane.resize(2)
        self.assertEqual((lane.pages_now(), lane.counts()), ([5, 5], (2, 0, 0, 0)))
        write(lane, FULL)
        self.assertEqual((lane.pages_now(), lane.counts()), ([5, 5], (3, 0, 1, 0)))

    def test_longer(self):
        lane = self.full_lane(2)
        self.assertIsNone(lane.resize(3))
        write(lane, FULL)
        self.assertEqual((lane.pages_now(), lane.counts()), ([5, 5, 5], (5, 0, 0, 0)))
        write(lane, FULL)
        self.assertEqual((lane.pages_now(), lane.counts()), ([5, 5, 5], (6, 0, 2, 0)))

    def test_as_long(self):
        lane = self.full_lane()
        ahead = shown(lane)
        lane.resize(4)
        self.assertEqual(shown(lane), ahead)

    def test_a_lane_that_misses(self):
        lane = Lane(pages=3, room=5, over=False)
        for turn in range(3):
            write(lane, FULL)
        lane.resize(2)
        self.assertEqual((lane.pages_now(), lane.counts()), ([5, 5], (3, 0, 1, 0)))
        self.assertIsNone(write(lane, FULL))
        lane.resize(16)
        self.assertEqual([write(lane, FULL) for turn in range(15)], list(range(5, 19)) + [None])

    def test_a_held_page_is_neither_counted_nor_lost(self):
        lane = self.full_lane(3)
        lane.take()
        write(lane, FULL)
        self.assertEqual(lane.pages_now(), [5, 5, 5, 5])
        lane.resize(2)
        self.assertEqual((lane.pages_now(), lane.counts()), ([5, 5, 5], (7, 0, 2, 0)))
        self.assertEqual(places(lane.look()), [1, ("lost", 2), 4, 5, 6])

    def test_busy(self):
        lane = Lane(pages=4, room=5)
        write(lane, FULL)
        lane.claim(THREE, 0)
        write(lane, FULL)
        write(lane, FULL)
        self.assertEqual(self.refused(Busy, lane, "resize", 2).word, "busy")
        twin = lane.twin()
        # Nothing was made shorter: a fifth page would still be one too many, a fourth was not.
        self.assertEqual(write(twin, FULL), 5)
        self.assertEqual((twin.pages_now(), twin.counts()), ([3, 5, 5, 5], (4, 0, 1, 0)))
        lane.resize(3)
        self.assertEqual((lane.pages_now(), lane.counts()), ([3, 5, 5], (3, 0, 1, 0)))
        self.refused(Busy, lane, "resize", 2)
        lane.throw(2)
        lane.resize(2)
        self.assertEqual((lane.pages_now(), lane.counts()), ([5, 5], (3, 1, 1, 0)))

    def test_open_claims_in_pages_that_stay(self):
        lane = Lane(pages=4, room=5)
        write(lane, FULL)
        write(lane, FULL)
        lane.claim(FULL, 0)
        lane.claim(FULL, 0)
        lane.resize(2)
        self.assertEqual((lane.pages_now(), lane.pending(), lane.counts()), ([5, 5], [3, 4], (2, 0, 2, 0)))
        lane.give(4)
        lane.give(3)
        self.assertEqual(places(lane.look()), [("lost", 2), 2, 3])

    def test_an_open_claim_in_the_held_page(self):
        lane = Lane(pages=3, room=6)
        write(lane, IDLE)
        lane.claim(IDLE, 0)
        lane.take()
        for turn in range(3):
            write(lane, FULL)
        lane.resize(2)
        self.assertEqual((lane.pages_now(), lane.pending(), lane.counts()), ([2, 5, 5], [2], (4, 0, 1, 0)))

    def test_sizes_that_are_not(self):
        lane = Lane(pages=4, room=5)
        for turn in range(4):
            lane.claim(FULL, 0)
        for pages in (1, 0, -1, 17, 10 ** 29, -10 ** 29):
            self.assertEqual(self.refused(BadSize, lane, "resize", pages).word, "badsize")
        for pages in (2, 3):
            self.refused(Busy, lane, "resize", pages)
        for pages in (4, 16):
            lane.resize(pages)


class Twins(Case):
    def busy_lane(self, over=True):
        """A lane with a held page, lost, thrown back and missed events, and open claims."""
        lane = Lane(pages=2, room=6, over=over)
        write(lane, IDLE, 1)
        write(lane, IDLE, 2)
        lane.take()
        lane.throw(lane.claim(IDLE, 2))
        for time in (3, 4, 5, 6):
            write(lane, FOUR, time)
        lane.claim(TWO, 7)
        lane.claim(FULL, 8)
        lane.claim(FULL, 9)
        lane.fill(8, (6,))
        return lane

    def test_a_twin_has_all(self):
        for over in (True, False):
            lane = self.busy_lane(over)
            twin = lane.twin()
            self.assertIsInstance(twin, Lane)
            self.assertIsNot(twin, lane)
            self.assertEqual(shown(twin), shown(lane))
            self.refused(BadTime, twin, "claim", IDLE, 8)
            for deed, handed in (("claim", (IDLE, 9)), ("claim", (FULL, 9)), ("resize", (3,)), ("claim", (FULL, 10))):
                self.assertEqual(getattr(twin, deed)(*handed), getattr(lane, deed)(*handed))
            while lane.pending():
                ticket = lane.pending()[-1]
                lane.give(ticket)
                twin.give(ticket)
            self.assertEqual(shown(twin), shown(lane))
            self.assertEqual(all_taken(twin), all_taken(lane))
            self.refused(BadTime, twin, "claim", IDLE, 9)

    def test_the_size_is_kept(self):
        twin = Lane(pages=3, room=7, over=False).twin()
        for turn in range(30):
            write(twin, IDLE)
        self.assertEqual((twin.pages_now(), twin.counts()), ([7, 7, 7], (21, 0, 0, 9)))

    def test_each_goes_its_own_way(self):
        def deeds(lane):
            top = lane.pending()[-1]
            lane.fill(top, (5,) * 4)
            lane.give(top)
            lane.throw(lane.pending()[-1])
            lane.take()
            lane.claim(IDLE, 20)
            lane.resize(5)
            lane.claim(FULL, 20)

        for first in (True, False):
            lane = self.busy_lane()
            twin = lane.twin()
            one, other = (lane, twin) if first else (twin, lane)
            ahead = shown(other)
            deeds(one)
            self.assertNotEqual(shown(one), ahead)
            self.assertEqual(shown(other), ahead)
            deeds(other)
            self.assertEqual(shown(one), shown(other))

    def test_a_twin_of_a_new_lane(self):
        twin = Lane().twin()
        self.assertEqual(shown(twin), shown(Lane()))
        self.assertEqual(twin.claim(IDLE, -9), 1)


class Asking(Case):
    def test_len_and_repr(self):
        lane = Lane(pages=3, room=5)
        for turn in range(7):
            write(lane, TWO)
        lane.claim(IDLE, 0)
        write(lane, IDLE)
        self.assertEqual(lane.pages_now(), [4, 4, 4])
        self.assertEqual(lane.counts(), (8, 0, 2, 0))
        self.assertEqual((len(lane), repr(lane)), (5, "Lane(3 pages, 5 whole)"))
        for told, whole in ((("lost", 2), 5), (("event", 2, 0, "b", (0,)), 4), (("event", 3, 0, "b", (0,)), 3)):
            self.assertEqual(lane.take(), told)
            self.assertEqual((len(lane), repr(lane)), (whole, f"Lane(3 pages, {whole} whole)"))

    def test_look_is_what_taking_tells(self):
        lane = Lane(pages=2, room=5)
        for turn in range(3):
            write(lane, TWO)
            write(lane, THREE)
        told = lane.look()
        self.assertEqual(places(told), [("lost", 2), 2, 3, 4, 5])
        self.assertEqual(all_taken(lane), told)
        self.assertEqual(lane.look(), [])

    def test_questions_change_nothing(self):
        lane = Lane(pages=2, room=5)
        for turn in range(4):
            write(lane, FOUR)
        lane.take()
        lane.claim(IDLE, 0)
        self.assertEqual(shown(lane), shown(lane))
        lane.look()
        # Looking holds no page: the eldest is still lost.
        write(lane, FOUR)
        self.assertEqual(lane.counts(), (5, 0, 3, 0))

    def test_each_list_is_a_new_one(self):
        lane = Lane()
        write(lane, IDLE)
        lane.claim(IDLE, 0)
        ahead = shown(lane)
        lane.look().clear()
        lane.pending().append(9)
        lane.pages_now().append(9)
        self.assertEqual(shown(lane), ahead)


if __name__ == "__main__":
    unittest.main()
