"""lanescribe.lanes, the writers' side: claims, pages that run out, and what is thrown back."""

import unittest

from lanescribe.errors import BadSize, BadTime, BadValue, NoTicket, NotTop
from lanescribe.kinds import LIMIT, Kind
from lanescribe.lanes import PAGES, ROOM, Lane

from tests.helpers import KINDS, Case, places, shown, write

SEND = Kind("send", (("size", 0, 9), ("to", 1, 4)))
# KINDS[n] takes n + 1 cells; FULL fills a page of five cells.
IDLE, TWO, THREE, FOUR, FULL = KINDS
NIL = (0, 0, 0, 0)


class Making(Case):
    def test_constants(self):
        self.assertEqual((PAGES, ROOM), (4, 8))

    def test_the_beginning(self):
        lane = Lane()
        self.assertEqual(shown(lane), ([], [], [], NIL, [0], 0, "Lane(1 pages, 0 whole)"))
        self.assertIsNone(lane.take())

    def test_defaults(self):
        lane = Lane()
        for number in range(8):
            write(lane, FOUR)
        self.assertEqual(lane.pages_now(), [8, 8, 8, 8])
        write(lane, FOUR)
        self.assertEqual((lane.pages_now(), lane.counts()), ([8, 8, 8, 4], (9, 0, 2, 0)))

    def test_sizes_that_are_allowed(self):
        for pages in (2, 3, 15, 16):
            for room in (5, 6, 11, 12):
                with self.subTest(pages=pages, room=room):
                    lane = Lane(pages=pages, room=room, over=False)
                    while write(lane, IDLE) is not None:
                        pass
                    self.assertEqual(lane.pages_now(), [room] * pages)

    def test_sizes_that_are_not(self):
        rows = ((1, 8), (0, 8), (-2, 8), (17, 8), (10 ** 29, 8), (4, 4), (4, 13), (4, 0), (4, -10 ** 29), (1, 4))
        for pages, room in rows:
            for over in (True, False):
                with self.subTest(pages=pages, room=room), self.assertRaises(BadSize) as caught:
                    Lane(pages=pages, room=room, over=over)
                self.assertEqual(caught.exception.word, "badsize")

    def test_lanes_made_apart(self):
        one, other = Lane(), Lane()
        write(one, SEND, 5)
        one.claim(SEND, 7)
        self.assertEqual(shown(other), shown(Lane()))
        self.assertEqual(other.claim(SEND, 0), 1)


class Claims(Case):
    def test_tickets(self):
        lane = Lane()
        self.assertEqual([lane.claim(IDLE, 0) for turn in range(3)], [1, 2, 3])
        lane.throw(3)
        lane.give(2)
        self.assertEqual(lane.claim(IDLE, 0), 4)

    def test_missed_tickets_count(self):
        lane = Lane(pages=2, room=5, over=False)
        self.assertEqual([write(lane, FULL) for turn in range(4)], [1, 2, None, None])
        self.assertEqual(lane.counts(), (2, 0, 0, 2))
        lane.take()
        self.assertEqual(lane.claim(FULL, 0), 5)

    def test_times(self):
        lane = Lane()
        for ticket, time in enumerate((-5, -5, 0, 3, 3, LIMIT, 10 ** 29), 1):
            self.assertEqual(lane.claim(IDLE, time), ticket)

    def test_times_that_fall(self):
        lane = Lane()
        lane.claim(IDLE, 5)
        for time in (4, 0, -1, -10 ** 29):
            self.assertEqual(self.refused(BadTime, lane, "claim", IDLE, time).word, "badtime")
        self.assertEqual(lane.claim(IDLE, 5), 2)

    def test_times_of_what_was_thrown_back_and_missed(self):
        lane = Lane(pages=2, room=5, over=False)
        lane.throw(lane.claim(IDLE, 3))
        self.refused(BadTime, lane, "claim", IDLE, 2)
        write(lane, FULL, 3)
        write(lane, FULL, 3)
        self.assertIsNone(lane.claim(FULL, 9))
        self.refused(BadTime, lane, "claim", FULL, 8)
        self.refused(BadTime, lane, "claim", IDLE, 8)
        self.assertIsNone(lane.claim(FULL, 9))
        self.assertEqual(lane.counts(), (2, 1, 0, 2))

    def test_a_refused_time_does_not_count(self):
        lane = Lane()
        lane.claim(IDLE, 5)
        self.refused(BadTime, lane, "claim", IDLE, 4)
        self.assertEqual(lane.claim(IDLE, 6), 2)

    def test_pending(self):
        lane = Lane()
        for turn in range(4):
            lane.claim(IDLE, 0)
        self.assertEqual(lane.pending(), [1, 2, 3, 4])
        lane.give(4)
        lane.throw(3)
        self.assertEqual(lane.pending(), [1, 2])
        lane.claim(IDLE, 0)
        self.assertEqual(lane.pending(), [1, 2, 5])

    def test_event(self):
        lane = Lane()
        lane.claim(SEND, -3)
        lane.claim(IDLE, 7)
        self.assertEqual(lane.event(1), (-3, "send", (0, 1)))
        self.assertEqual(lane.event(2), (7, "a", ()))
        lane.fill(1, (9, 4))
        self.assertEqual(lane.event(1), (-3, "send", (9, 4)))

    def test_fill_any_open_claim(self):
        lane = Lane()
        for turn in range(3):
            lane.claim(SEND, turn)
        self.assertIsNone(lane.fill(1, (1, 1)))
        self.assertIsNone(lane.fill(3, (3, 3)))
        self.assertIsNone(lane.fill(2, (8, 2)))
        self.assertIsNone(lane.fill(2, (2, 2)))
        for ticket in (3, 2, 1):
            lane.give(ticket)
        self.assertEqual([event[4] for event in lane.look()], [(1, 1), (2, 2), (3, 3)])

    def test_values_are_the_lowest_at_first(self):
        lane = Lane()
        write(lane, SEND)
        write(lane, Kind("low", (("x", -LIMIT, LIMIT),)))
        write(lane, IDLE)
        self.assertEqual([event[4] for event in lane.look()], [(0, 1), (-LIMIT,), ()])

    def test_fill_refuses_values(self):
        lane = Lane()
        lane.claim(SEND, 0)
        lane.fill(1, (5, 3))
        for values, at in (((10, 1), 0), ((0, 5), 1), ((0,), 1), ((), 0), ((0, 1, 1), 2)):
            error = self.refused(BadValue, lane, "fill", 1, values)
            self.assertEqual((error.at, error.word), (at, "badvalue"))
        self.assertEqual(lane.event(1), (0, "send", (5, 3)))

    def test_tickets_that_are_not_open(self):
        lane = Lane(pages=2, room=5, over=False)
        lane.claim(IDLE, 0)
        lane.throw(1)
        write(lane, FULL)
        lane.claim(THREE, 0)
        lane.claim(FULL, 0)
        self.assertEqual(lane.pending(), [3])
        # 1 was thrown back, 2 given in, 4 missed, the others never were.
        for ticket in (1, 2, 4, 5, 0, -1, 10 ** 29):
            for deed, handed in (("fill", ((0, 0),)), ("fill", ((99,),)), ("give", ()), ("throw", ()), ("event", ())):
                with self.subTest(ticket=ticket, deed=deed):
                    self.assertEqual(self.refused(NoTicket, lane, deed, ticket, *handed).word, "noticket")

    def test_only_the_last_open_claim_is_given_in_or_thrown_back(self):
        lane = Lane()
        for turn in range(3):
            lane.claim(IDLE, 0)
        for ticket in (1, 2):
            for deed in ("give", "throw"):
                self.assertEqual(self.refused(NotTop, lane, deed, ticket).word, "nottop")
        self.assertIsNone(lane.give(3))
        self.refused(NotTop, lane, "give", 1)
        self.assertIsNone(lane.throw(2))
        self.assertIsNone(lane.give(1))
        self.assertEqual(lane.counts(), (2, 1, 0, 0))

    def test_last_over_several_pages(self):
        lane = Lane(room=5)
        lane.claim(FULL, 0)
        lane.claim(FULL, 0)
        self.refused(NotTop, lane, "give", 1)
        self.refused(NotTop, lane, "throw", 1)
        lane.give(2)
        lane.give(1)

    def test_what_is_handed_in_is_kept_as_a_copy(self):
        lane = Lane()
        kind = Kind("send", SEND.fields)
        lane.claim(kind, 0)
        kind.name, kind.fields = "other", ()
        lane.fill(1, (2, 2))
        self.assertEqual(lane.event(1), (0, "send", (2, 2)))
        lane.give(1)
        self.assertEqual(lane.take(), ("event", 0, 0, "send", (2, 2)))

    def test_nothing_handed_in_is_changed(self):
        lane = Lane()
        kind = Kind("send", SEND.fields)
        write(lane, kind, 0, (3, 3))
        self.assertEqual(kind, SEND)


class Pages(Case):
    def test_claims_go_into_the_head(self):
        lane = Lane(room=8)
        for kind, row in ((THREE, [3]), (FOUR, [7]), (IDLE, [8]), (IDLE, [8, 1])):
            lane.claim(kind, 0)
            self.assertEqual(lane.pages_now(), row)

    def test_what_is_left_of_the_elder_page_stays_empty(self):
        lane = Lane(room=8)
        for kind, row in ((FULL, [5]), (FOUR, [5, 4]), (THREE, [5, 7]), (TWO, [5, 7, 2]), (IDLE, [5, 7, 3])):
            write(lane, kind)
            self.assertEqual(lane.pages_now(), row)

    def test_cells_of_each_kind(self):
        for cells, kind in enumerate(KINDS, 1):
            lane = Lane(room=5)
            lane.claim(kind, 0)
            self.assertEqual(lane.pages_now(), [cells])

    def test_the_eldest_page_is_written_over(self):
        lane = Lane(pages=3, room=5)
        write(lane, TWO)
        write(lane, TWO)
        for turn in range(2):
            write(lane, FOUR)
        self.assertEqual((lane.pages_now(), lane.counts()), ([4, 4, 4], (4, 0, 0, 0)))
        self.assertEqual(write(lane, FULL), 5)
        self.assertEqual((lane.pages_now(), lane.counts()), ([4, 4, 5], (5, 0, 2, 0)))
        self.assertEqual(lane.claim(FULL, 0), 6)
        self.assertEqual((lane.pages_now(), lane.counts()), ([4, 5, 5], (5, 0, 3, 0)))

    def test_the_newest_event_is_missed(self):
        lane = Lane(pages=3, room=5, over=False)
        for turn in range(3):
            write(lane, FOUR)
        self.assertIsNone(lane.claim(FULL, 0))
        self.assertEqual((lane.pages_now(), lane.counts()), ([4, 4, 4], (3, 0, 0, 1)))
        self.assertEqual(lane.claim(IDLE, 0), 5)
        self.assertEqual(lane.pages_now(), [4, 4, 5])
        self.assertIsNone(lane.claim(IDLE, 0))

    def test_an_open_claim_in_the_eldest_page(self):
        lane = Lane(pages=2, room=5)
        write(lane, IDLE)
        lane.claim(IDLE, 0)
        write(lane, FULL)
        ahead = lane.pages_now()
        self.assertIsNone(lane.claim(FULL, 0))
        self.assertEqual((lane.pages_now(), lane.counts()), (ahead, (2, 0, 0, 1)))
        lane.give(2)
        self.assertEqual(lane.claim(FULL, 0), 5)
        self.assertEqual((lane.pages_now(), lane.counts()), ([5, 5], (3, 0, 2, 1)))

    def test_an_open_claim_in_a_later_page(self):
        lane = Lane(pages=2, room=5)
        write(lane, FULL)
        lane.claim(FULL, 0)
        self.assertEqual(lane.claim(FULL, 0), 3)
        self.assertEqual((lane.pages_now(), lane.counts()), ([5, 5], (1, 0, 1, 0)))

    def test_a_held_page_is_not_counted(self):
        for over in (True, False):
            lane = Lane(pages=2, room=5, over=over)
            write(lane, FULL)
            lane.take()
            self.assertEqual([write(lane, FULL) for turn in range(2)], [2, 3])
            self.assertEqual((lane.pages_now(), lane.counts()), ([5, 5, 5], (3, 0, 0, 0)))
            self.assertEqual(write(lane, FULL), 4 if over else None)
            self.assertEqual(lane.pages_now(), [5, 5, 5])
            self.assertEqual(lane.counts(), (4, 0, 1, 0) if over else (3, 0, 0, 1))

    def test_a_held_page_is_never_written_over(self):
        lane = Lane(pages=2, room=5)
        write(lane, IDLE, 7)
        write(lane, IDLE, 8)
        lane.take()
        for turn in range(9):
            write(lane, FULL, 10 + turn)
        self.assertEqual((lane.pages_now(), lane.counts()), ([2, 5, 5], (11, 0, 7, 0)))
        self.assertEqual(places(lane.look()), [1, ("lost", 7), 9, 10])
        self.assertEqual(lane.take(), ("event", 1, 8, "a", ()))

    def test_an_open_claim_in_the_held_page(self):
        lane = Lane(pages=2, room=6)
        write(lane, IDLE)
        lane.claim(IDLE, 0)
        lane.take()
        self.assertEqual([write(lane, FULL) for turn in range(3)], [3, 4, 5])
        self.assertEqual((lane.pages_now(), lane.counts()), ([2, 5, 5], (4, 0, 1, 0)))

    def test_a_page_without_events_is_written_over(self):
        lane = Lane(pages=2, room=5)
        lane.claim(FULL, 0)
        write(lane, FULL)
        lane.throw(1)
        write(lane, FULL)
        self.assertEqual((lane.pages_now(), lane.counts()), ([5, 5], (2, 1, 0, 0)))
        self.assertEqual(places(lane.look()), [0, 1])


class ThrowingBack(Case):
    def test_cells_are_free_again(self):
        lane = Lane(room=8)
        write(lane, TWO)
        lane.claim(THREE, 0)
        self.assertEqual(lane.pages_now(), [5])
        self.assertIsNone(lane.throw(2))
        self.assertEqual((lane.pages_now(), lane.counts()), ([2], (1, 1, 0, 0)))
        lane.claim(FULL, 0)
        self.assertEqual(lane.pages_now(), [7])

    def test_one_behind_the_other(self):
        lane = Lane(room=8)
        for kind in (IDLE, TWO, THREE):
            lane.claim(kind, 0)
        for ticket, row in ((3, [3]), (2, [1]), (1, [0])):
            lane.throw(ticket)
            self.assertEqual(lane.pages_now(), row)
        self.assertEqual((lane.look(), lane.counts()), ([], (0, 3, 0, 0)))

    def test_cells_ahead_of_an_event_stay_taken(self):
        lane = Lane(room=8)
        lane.claim(TWO, 0)
        write(lane, THREE)
        lane.throw(1)
        self.assertEqual((lane.pages_now(), lane.counts()), ([5], (1, 1, 0, 0)))
        lane.claim(FOUR, 0)
        self.assertEqual(lane.pages_now(), [5, 4])

    def test_cells_ahead_of_what_was_thrown_back_and_stays(self):
        lane = Lane(room=8)
        lane.claim(IDLE, 0)
        lane.claim(IDLE, 0)
        write(lane, IDLE)
        for ticket in (2, 1):
            lane.throw(ticket)
            self.assertEqual(lane.pages_now(), [3])
        lane.claim(IDLE, 0)
        lane.throw(4)
        self.assertEqual(lane.pages_now(), [3])

    def test_cells_ahead_of_what_was_thrown_back_and_is_free(self):
        lane = Lane(room=8)
        lane.claim(TWO, 0)
        lane.claim(THREE, 0)
        lane.throw(2)
        lane.claim(FOUR, 0)
        lane.throw(3)
        self.assertEqual(lane.pages_now(), [2])
        lane.throw(1)
        self.assertEqual(lane.pages_now(), [0])

    def test_an_elder_page_than_the_head(self):
        lane = Lane(room=5)
        lane.claim(THREE, 0)
        lane.claim(FOUR, 0)
        lane.throw(2)
        self.assertEqual(lane.pages_now(), [3, 0])
        lane.throw(1)
        self.assertEqual(lane.pages_now(), [3, 0])
        lane.claim(IDLE, 0)
        self.assertEqual(lane.pages_now(), [3, 1])

    def test_a_held_head(self):
        lane = Lane(room=5)
        write(lane, IDLE)
        lane.take()
        lane.claim(TWO, 0)
        lane.throw(2)
        self.assertEqual(lane.pages_now(), [1])

    def test_what_is_thrown_back_is_no_event(self):
        lane = Lane()
        lane.claim(SEND, 0)
        write(lane, IDLE)
        lane.throw(1)
        lane.throw(lane.claim(SEND, 0))
        write(lane, TWO)
        self.assertEqual(lane.look(), [("event", 0, 0, "a", ()), ("event", 1, 0, "b", (0,))])
        self.assertEqual(len(lane), 2)


if __name__ == "__main__":
    unittest.main()
