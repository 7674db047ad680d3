"""lanescribe.lookers: readers with a place of their own, which change nothing of their lane."""

import unittest

from lanescribe.errors import BadSize
from lanescribe.lanes import Lane
from lanescribe.lookers import MOST_TOLD, Looker

from tests.helpers import KINDS, all_taken, places, shown, write

IDLE, TWO, THREE, FOUR, FULL = KINDS
NIL = (0, 0, 0, 0)


def lane_of(many, pages=2):
    """A lane of so many events, each in a page of its own, at the times 0, 1, 2 and so on."""
    lane = Lane(pages=pages, room=5)
    for time in range(many):
        write(lane, FULL, time)
    return lane


class Telling(unittest.TestCase):
    def test_constant(self):
        self.assertEqual(MOST_TOLD, 400)

    def test_at_first(self):
        looker = Looker(Lane())
        self.assertEqual((looker.place(), looker.more(), looker.place()), (0, [], 0))

    def test_events_as_taking_would_tell_them(self):
        lane = Lane()
        write(lane, TWO, 3, (7,))
        write(lane, IDLE, 4)
        looker = Looker(lane)
        self.assertEqual(looker.more(), [("event", 0, 3, "b", (7,)), ("event", 1, 4, "a", ())])
        self.assertEqual((looker.place(), looker.more()), (2, []))

    def test_the_next_asking_goes_on(self):
        lane = Lane()
        looker = Looker(lane)
        for time in range(4):
            write(lane, IDLE, time)
            self.assertEqual(looker.more(), [("event", time, time, "a", ())])
            self.assertEqual(looker.place(), time + 1)
            self.assertEqual(looker.more(), [])

    def test_only_whole_events(self):
        lane = Lane()
        looker = Looker(lane)
        write(lane, IDLE, 1)
        lane.claim(IDLE, 2)
        write(lane, IDLE, 3)
        self.assertEqual(places(looker.more()), [0])
        self.assertEqual((looker.more(), looker.place()), ([], 1))
        lane.give(2)
        self.assertEqual(looker.more(), [("event", 1, 2, "a", ()), ("event", 2, 3, "a", ())])

    def test_lost_events(self):
        looker = Looker(lane_of(5))
        self.assertEqual(looker.more(), [("lost", 3), ("event", 3, 3, "e", NIL), ("event", 4, 4, "e", NIL)])
        self.assertEqual(looker.place(), 5)

    def test_it_asks_seldom(self):
        lane = lane_of(1)
        looker = Looker(lane)
        self.assertEqual(places(looker.more()), [0])
        for many in (3, 2, 10):
            ahead = looker.place()
            for turn in range(many):
                write(lane, FULL, 9)
            lost = [("lost", many - 2)] if many > 2 else []
            self.assertEqual(places(looker.more()), lost + [ahead + many - 2, ahead + many - 1])
            self.assertEqual(looker.place(), ahead + many)

    def test_lost_is_told_ahead_of_an_event_alone(self):
        lane = Lane(pages=2, room=5)
        write(lane, FULL, 1)
        lane.claim(FULL, 2)
        lane.claim(FULL, 3)
        looker = Looker(lane)
        self.assertEqual((lane.counts(), looker.more(), looker.place()), ((1, 0, 1, 0), [], 0))
        lane.throw(3)
        lane.throw(2)
        self.assertEqual((looker.more(), looker.place()), ([], 0))
        write(lane, IDLE, 4)
        self.assertEqual(looker.more(), [("lost", 1), ("event", 1, 4, "a", ())])

    def test_taken_events_of_the_held_page_are_there(self):
        lane = Lane(room=5)
        for time in range(3):
            write(lane, TWO, time)
        looker = Looker(lane)
        self.assertEqual(places([lane.take(), lane.take()]), [0, 1])
        self.assertEqual(places(looker.more()), [0, 1, 2])

    def test_taken_and_gone_events_are_told_as_lost(self):
        lane = lane_of(4, pages=4)
        looker = Looker(lane)
        self.assertEqual(places(looker.more(most=1)), [0])
        self.assertEqual(places(all_taken(lane)), [0, 1, 2, 3])
        self.assertEqual(lane.counts()[2], 0)
        self.assertEqual(looker.more(), [("lost", 2), ("event", 3, 3, "e", NIL)])

    def test_taken_and_lost_events_in_one(self):
        lane = lane_of(2)
        lane.take()
        lane.take()
        for turn in range(4):
            write(lane, FULL, 9)
        looker = Looker(lane)
        # 0 was taken and is gone, 1 was taken and is held, 2 and 3 are lost.
        self.assertEqual(places(looker.more()), [("lost", 1), 1, ("lost", 2), 4, 5])
        self.assertEqual(places(lane.look()), [("lost", 2), 4, 5])

    def test_a_held_page_with_an_open_claim(self):
        for deed, told in (("give", [1, ("lost", 1), 3, 4]), ("throw", [("lost", 1), 2, 3])):
            lane = Lane(pages=2, room=6)
            looker = Looker(lane)
            write(lane, IDLE)
            lane.claim(IDLE, 0)
            lane.take()
            for turn in range(3):
                write(lane, FULL)
            self.assertEqual(places(looker.more()), [0])
            getattr(lane, deed)(2)
            self.assertEqual(places(looker.more()), told)


class FewThings(unittest.TestCase):
    def test_none(self):
        looker = Looker(lane_of(5))
        self.assertEqual((looker.more(most=0), looker.place()), ([], 0))

    def test_one_by_one(self):
        looker = Looker(lane_of(5))
        for told, place in (([("lost", 3)], 3), ([3], 4), ([4], 5), ([], 5)):
            self.assertEqual(places(looker.more(most=1)), told)
            self.assertEqual(looker.place(), place)

    def test_a_few(self):
        looker = Looker(lane_of(6, pages=4))
        self.assertEqual((places(looker.more(most=3)), looker.place()), ([("lost", 2), 2, 3], 4))
        self.assertEqual((places(looker.more(most=3)), looker.place()), ([4, 5], 6))

    def test_lost_told_and_more_lost_behind(self):
        lane = lane_of(4)
        looker = Looker(lane)
        self.assertEqual(looker.more(most=1), [("lost", 2)])
        for turn in range(3):
            write(lane, FULL, 9)
        self.assertEqual((looker.more(most=1), looker.place()), ([("lost", 3)], 5))
        self.assertEqual(places(looker.more(most=10 ** 29)), [5, 6])

    def test_two_gaps(self):
        lane = lane_of(2)
        lane.take()
        lane.take()
        for turn in range(4):
            write(lane, FULL, 9)
        looker = Looker(lane)
        for told, place in (([("lost", 1), 1], 2), ([("lost", 2), 4], 5), ([5], 6)):
            self.assertEqual(places(looker.more(most=2)), told)
            self.assertEqual(looker.place(), place)

    def test_below_nought(self):
        looker = Looker(lane_of(5))
        looker.more(most=1)
        for most in (-1, -400, -10 ** 29):
            with self.subTest(most), self.assertRaises(BadSize) as caught:
                looker.more(most=most)
            self.assertEqual(caught.exception.word, "badsize")
        self.assertEqual(looker.place(), 3)

    def test_all_that_can_be_there(self):
        lane = Lane(pages=16, room=12)
        for turn in range(16 * 12):
            write(lane, IDLE)
        self.assertEqual(len(Looker(lane).more()), 192)


class Places(unittest.TestCase):
    def test_back(self):
        looker = Looker(lane_of(5))
        told = looker.more()
        self.assertIsNone(looker.back())
        self.assertEqual(looker.place(), 0)
        self.assertEqual(looker.more(), told)

    def test_to_each_place(self):
        looker = Looker(lane_of(5))
        rows = (
            (0, [("lost", 3), 3, 4]), (1, [("lost", 2), 3, 4]), (2, [("lost", 1), 3, 4]),
            (3, [3, 4]), (4, [4]), (5, []),
        )
        for place, told in rows:
            looker.back(place)
            self.assertEqual(looker.place(), place)
            self.assertEqual(places(looker.more()), told)
            self.assertEqual(looker.place(), 5)

    def test_beyond_what_is_there(self):
        lane = lane_of(1)
        looker = Looker(lane)
        looker.back(place=3)
        self.assertEqual((looker.more(), looker.place()), ([], 3))
        for turn in range(3):
            write(lane, FULL, 9)
        self.assertEqual(places(looker.more()), [3])
        looker.back(10 ** 29)
        self.assertEqual((looker.more(), looker.place()), ([], 10 ** 29))

    def test_below_nought(self):
        looker = Looker(lane_of(5))
        looker.back(2)
        for place in (-1, -10 ** 29):
            with self.subTest(place), self.assertRaises(BadSize) as caught:
                looker.back(place)
            self.assertEqual(caught.exception.word, "badsize")
        self.assertEqual(looker.place(), 2)


class Apart(unittest.TestCase):
    def test_nothing_of_the_lane_is_changed(self):
        lane = lane_of(5)
        lane.claim(FULL, 9)
        ahead = shown(lane)
        looker = Looker(lane)
        looker.more(most=1)
        looker.more()
        looker.back(1)
        looker.place()
        self.assertEqual(shown(lane), ahead)
        # No page is held for a looker: the eldest is written over as if none looked on.
        lane.give(6)
        write(lane, FULL, 9)
        self.assertEqual((lane.counts(), lane.pages_now()), ((7, 0, 5, 0), [5, 5]))

    def test_two_lookers(self):
        lane = lane_of(3)
        one, other = Looker(lane), Looker(lane)
        self.assertEqual(places(one.more()), [("lost", 1), 1, 2])
        self.assertEqual(other.place(), 0)
        self.assertEqual(places(other.more()), [("lost", 1), 1, 2])

    def test_the_very_lane(self):
        lane = Lane()
        looker, twins = Looker(lane), Looker(lane.twin())
        write(lane, IDLE)
        self.assertEqual(places(looker.more()), [0])
        self.assertEqual(twins.more(), [])

    def test_each_list_is_a_new_one(self):
        looker = Looker(lane_of(3))
        told = looker.more()
        kept = list(told)
        told.clear()
        looker.back()
        self.assertEqual(looker.more(), kept)


if __name__ == "__main__":
    unittest.main()
