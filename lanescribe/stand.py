"""How a recorder stands at one moment: its kinds, lanes, tallies and halt, and the deeds that change them."""

from lanescribe.errors import (
    BadTime, Broken, Full, Missing, NoKind, NoLane, NoTally, NoTicket, ScribeError, Stopped, Taken,
)
from lanescribe.kinds import LIMIT, Kind, need_name
from lanescribe.lanes import Lane, need_pages, need_room
from lanescribe.sieve import need_test, passes
from lanescribe.tallies import Tally

MOST_KINDS = 8
MOST_TRACKS = 6
MOST_TALLIES = 4


def need_new(name, borne):
    need_name(name)
    if name in borne:
        raise Taken(f"{name} is borne already")


def need_fewer(things, most):
    if len(things) >= most:
        raise Full(f"there are {most} already")


class Track:
    """A lane of a recorder, with its clock and its test."""

    def __init__(self, written):
        self.written = written
        self.clock = 0
        self.test = ("all",)

    def top(self):
        """The ticket of the open claim that was made last."""
        tickets = self.written.pending()
        if len(tickets) == 0:
            raise NoTicket("no claim is open")
        return tickets[-1]

    def twin(self):
        other = Track(self.written.twin())
        other.clock = self.clock
        other.test = self.test
        return other


class Stand:
    """All that a recorder has but its deeds; deeds are done to a twin, so that a stand itself never changes."""

    def __init__(self, pages, room):
        need_pages(pages)
        need_room(room)
        self.pages = pages
        self.room = room
        self.known = {}
        self.tracks = {}
        self.counters = {}
        self.still = False
        self.halting = None

    def track_of(self, name):
        if name not in self.tracks:
            raise NoLane(f"no lane is called {name}")
        return self.tracks[name]

    def kind_of(self, name):
        if name not in self.known:
            raise NoKind(f"no kind is called {name}")
        return self.known[name]

    def tally_of(self, name):
        if name not in self.counters:
            raise NoTally(f"no tally is called {name}")
        return self.counters[name]

    def looks(self):
        """What is looked at on each lane, the lanes in their order."""
        return [track.written.look() for track in self.tracks.values()]

    def twin(self):
        other = Stand(self.pages, self.room)
        other.known = dict(self.known)
        other.tracks = {name: track.twin() for name, track in self.tracks.items()}
        other.counters = {name: tally.twin() for name, tally in self.counters.items()}
        other.still = self.still
        other.halting = self.halting
        return other


# Each deed is handed the stand and a tuple of all that is handed to it, in order.


def do_kind(stand, handed):
    name, fields = handed
    need_new(name, stand.known)
    need_fewer(stand.known, MOST_KINDS)
    stand.known[name] = Kind(name, fields)


def do_lane(stand, handed):
    name, over = handed
    need_new(name, stand.tracks)
    need_fewer(stand.tracks, MOST_TRACKS)
    stand.tracks[name] = Track(Lane(pages=stand.pages, room=stand.room, over=over))


def do_tick(stand, handed):
    name, steps = handed
    track = stand.track_of(name)
    if not 0 <= steps <= LIMIT:
        raise BadTime(f"a clock can't go on by {steps}")
    track.clock += steps


def do_claim(stand, handed):
    name, kind = handed
    track = stand.track_of(name)
    form = stand.kind_of(kind)
    if stand.still:
        raise Stopped("the recorder is stopped")
    return track.written.claim(form, track.clock)


def do_fill(stand, handed):
    name, values = handed
    track = stand.track_of(name)
    track.written.fill(track.top(), values)


def do_give(stand, handed):
    track = stand.track_of(handed[0])
    ticket = track.top()
    time, kind, values = track.written.event(ticket)
    form = stand.kind_of(kind)
    if not passes(track.test, form, values):
        track.written.throw(ticket)
        return False
    track.written.give(ticket)
    for tally in stand.counters.values():
        tally.note(form, values)
    if stand.halting is not None and passes(stand.halting, form, values):
        stand.still = True
    return True


def do_throw(stand, handed):
    track = stand.track_of(handed[0])
    track.written.throw(track.top())


def do_write(stand, handed):
    name, kind, values = handed
    # A missed claim leaves nothing to be filled, so that its values aren't looked at.
    if do_claim(stand, (name, kind)) is None:
        return None
    do_fill(stand, (name, values))
    return do_give(stand, (name,))


def do_take(stand, handed):
    return stand.track_of(handed[0]).written.take()


def do_resize(stand, handed):
    name, pages = handed
    stand.track_of(name).written.resize(pages)


def do_sieve(stand, handed):
    name, test = handed
    track = stand.track_of(name)
    need_test(test)
    track.test = test


def do_tally(stand, handed):
    name, test, keys = handed
    need_new(name, stand.counters)
    tally = Tally(test, keys)
    need_fewer(stand.counters, MOST_TALLIES)
    stand.counters[name] = tally


def do_halt(stand, handed):
    test = handed[0]
    if test is not None:
        need_test(test)
    stand.halting = test


def do_stop(stand, handed):
    stand.still = True


def do_go(stand, handed):
    stand.still = False


def do_whole(stand, handed):
    told = []
    for step, deed in enumerate(handed[0]):
        try:
            told.append(perform(stand, deed))
        except (ScribeError, Missing) as error:
            raise Broken(step, error.word) from None
    return told


DEEDS = {
    "kind": do_kind, "lane": do_lane, "tick": do_tick, "claim": do_claim, "fill": do_fill, "give": do_give,
    "throw": do_throw, "write": do_write, "take": do_take, "resize": do_resize, "sieve": do_sieve, "tally": do_tally,
    "halt": do_halt, "stop": do_stop, "go": do_go, "whole": do_whole,
}


def perform(stand, deed):
    """Do a deed to a stand, and tell what it tells; where it is refused the stand is of no more use."""
    act = DEEDS[deed[0]]
    return act(stand, deed[1:])
