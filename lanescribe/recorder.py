"""The recorder: kinds, lanes and tallies by names, and deeds that can be taken back and done again."""

from lanescribe.clocks import MOST_AMOUNT
from lanescribe.errors import NothingLeft
from lanescribe.kinds import Kind
from lanescribe.lanes import PAGES, ROOM
from lanescribe.lookers import Looker
from lanescribe.merge import ordered
from lanescribe.stand import Stand, perform


class Recorder:
    """A stand, the deeds that led to it, and those that were taken back, each with the stand on its other side."""

    def __init__(self, *, pages=PAGES, room=ROOM):
        self.stand = Stand(pages, room)
        self.past = []
        self.undone = []

    def kind(self, name, fields=()):
        """Bring in a kind of events."""
        return self.do(("kind", name, fields))

    def lane(self, name, *, over=True):
        """Bring in a lane, which writes over its eldest pages or misses events when pages run out."""
        return self.do(("lane", name, over))

    def tick(self, lane, steps=1):
        """Let a lane's clock go on."""
        return self.do(("tick", lane, steps))

    def claim(self, lane, kind):
        """Claim room for an event: the ticket, or None where it is missed."""
        return self.do(("claim", lane, kind))

    def fill(self, lane, values):
        """Give the open claim that was made last its values."""
        return self.do(("fill", lane, values))

    def give(self, lane):
        """Give in the open claim that was made last; False where the lane's test throws it back."""
        return self.do(("give", lane))

    def throw(self, lane):
        """Throw back the open claim that was made last."""
        return self.do(("throw", lane))

    def write(self, lane, kind, values):
        """Claim, fill and give: what giving tells, or None where the claim is missed."""
        return self.do(("write", lane, kind, values))

    def take(self, lane):
        """The first whole event of a lane that was not taken, or how many were lost ahead of it, or None."""
        return self.do(("take", lane))

    def resize(self, lane, pages):
        """So many pages may be in a lane from now on."""
        return self.do(("resize", lane, pages))

    def sieve(self, lane, test):
        """Let only events that pass a test be given in on a lane from now on."""
        return self.do(("sieve", lane, test))

    def tally(self, name, test, *, keys=()):
        """Count the events that are given in from now on and pass a test, by the values of some fields."""
        return self.do(("tally", name, test, keys))

    def halt(self, test=None):
        """Stop when an event is given in that passes a test; None for no such test."""
        return self.do(("halt", test))

    def stop(self):
        """Refuse claims from now on."""
        return self.do(("stop",))

    def go(self):
        """Let claims be made again."""
        return self.do(("go",))

    def whole(self, deeds):
        """Do a list of deeds as one, or none of them; the list of what they tell."""
        return self.do(("whole", tuple(deeds)))

    def do(self, deed):
        """Do a deed, a tuple of its name and all that is handed to it; what it tells."""
        later = self.stand.twin()
        told = perform(later, deed)
        self.past.append((deed, self.stand))
        self.undone.clear()
        self.stand = later
        return told

    def undo(self):
        """Take back the last deed that stands; the deed."""
        return self.go_along(self.past, self.undone)

    def redo(self):
        """Do the deed that was taken back last again; the deed."""
        return self.go_along(self.undone, self.past)

    def go_along(self, source, goal):
        """Stand as beyond the last deed of one row, which goes over into the other row."""
        if len(source) == 0:
            raise NothingLeft("no deed is left")
        deed, beyond = source.pop()
        goal.append((deed, self.stand))
        self.stand = beyond
        return deed

    def done(self):
        """The list of deeds that stand."""
        return [deed for deed, ahead in self.past]

    def twin(self):
        """A recorder that has all that this one has, and goes its own way."""
        other = Recorder(pages=self.stand.pages, room=self.stand.room)
        # A stand never changes, so that both may have the same ones.
        other.stand = self.stand
        other.past = list(self.past)
        other.undone = list(self.undone)
        return other

    def kinds(self):
        """The list of kinds, rising by their names."""
        known = self.stand.known
        return [Kind(name, known[name].fields) for name in sorted(known)]

    def lanes(self):
        """The names of the lanes, in the order in which they came."""
        return list(self.stand.tracks)

    def now(self, lane):
        """Where a lane's clock stands."""
        return self.stand.track_of(lane).clock

    def test_of(self, lane):
        """The test of a lane."""
        return self.stand.track_of(lane).test

    def look(self, lane):
        """The list of what taking from a lane would tell, till None."""
        return self.stand.track_of(lane).written.look()

    def pending(self, lane):
        """The open tickets of a lane, rising."""
        return self.stand.track_of(lane).written.pending()

    def counts(self, lane):
        """How many events of a lane were given in, thrown back, lost and missed."""
        return self.stand.track_of(lane).written.counts()

    def table(self, name):
        """The pairs (key, count) of a tally, rising."""
        return self.stand.tally_of(name).table()

    def dropped(self, name):
        """How many events a tally dropped."""
        return self.stand.tally_of(name).dropped()

    def tallies(self):
        """The names of the tallies, rising."""
        return sorted(self.stand.counters)

    def stopped(self):
        """Whether claims are refused."""
        return self.stand.still

    def halted_by(self):
        """The test of an event at which the recorder stops, or None."""
        return self.stand.halting

    def looker(self, lane):
        """A looker of a twin of a lane, as it is now."""
        return Looker(self.stand.track_of(lane).written.twin())

    def order(self, causes, *, most=MOST_AMOUNT):
        """The order of what is looked at on all lanes, by causes, or the ring where there is none."""
        return ordered(self.stand.looks(), causes, most=most)

    def __len__(self):
        return len([thing for told in self.stand.looks() for thing in told if thing[0] == "event"])
