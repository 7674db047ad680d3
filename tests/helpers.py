"""What several test files need: tests and kinds of a given size, and plain lanes and recorders to compare with."""

import unittest
from itertools import product

from lanescribe.errors import BadSize, BadTime, Broken, Busy, Missing, NoTicket, NotTop, ScribeError
from lanescribe.kinds import LIMIT, Kind
from lanescribe.recorder import Recorder
from lanescribe.sieve import holds, is_test

ALL = ("all",)

NO_TESTS = (
    (), ("",), ("some",), ("some", "a"), ("some", "a", 5), ("some", ALL), ("some", ALL, ALL), ("LESS", "a", 5),
    ("<", "a", 5), ("is", "a", 5), ("not", "a", 5), ("and", "a", 5), ("or", "a", 5), ("not", "a"), ("all", "a", 5),
    ("less", ALL, ALL), ("is", ALL, ALL), ("less ", "a", 5), ("Not", ALL), ("xor", ALL, ALL),
    ("All",), ("all ",), ("all", "all"), ("all", 1), ("all", ()), ("all", ALL),
    ("is",), ("is", 5), ("is", ""), ("is", "A"), ("is", "abcdefghi"), ("is", "a", "b"), ("is", ALL), ("is", ()),
    ("less",), ("less", "a"), ("less", 5), ("less", "a", "b"), ("less", 5, "a"), ("less", "a", 5, 5),
    ("less", "a", ALL), ("less", ALL, 5), ("less", "", 5), ("less", "a b", 5), ("less", "abcdefghi", 5),
    ("less", "a", LIMIT + 1), ("less", "a", -LIMIT - 1), ("less", "a", 10 ** 29), ("less", "a", "5"),
    ("less", "a", ()), ("less", 1, 2),
    ("same",), ("same", "a"), ("same", "a", LIMIT + 1), ("same", "a", -LIMIT - 1), ("same", "a", -10 ** 29),
    ("same", "a1", 0), ("same", "a", 1, 2), ("same", "a", "1"),
    ("not",), ("not", ()), ("not", "all"), ("not", 5), ("not", ALL, ALL), ("not", ("some",)), ("not", ("is", "A")),
    ("and",), ("and", ALL), ("and", ALL, ALL, ALL), ("and", ALL, ()), ("and", (), ALL), ("and", "all", ALL),
    ("and", ALL, 5), ("and", ("some",), ALL), ("and", ALL, ("less", "a", LIMIT + 1)),
    ("or",), ("or", ALL), ("or", ALL, ALL, ALL), ("or", (), ALL), ("or", ALL, "all"), ("or", 5, ALL),
    ("or", ALL, ("some",)), ("and",) + (ALL,) * 399, ("not", ("not", ("not", ("not", ())))),
)


def nots(depth):
    """A test that is just so deep."""
    test = ALL
    for level in range(depth - 1):
        test = ("not", test)
    return test


def bushy(parts):
    """A test of just so many parts, as flat as may be."""
    row = [ALL] * ((parts + 1) // 2)
    while len(row) > 1:
        row = [("and",) + tuple(row[at:at + 2]) if at + 1 < len(row) else row[at] for at in range(0, len(row), 2)]
    return row[0] if parts % 2 else ("not", row[0])


def tests_upto(leaves, depth):
    """All tests over these leaves that are at most so deep."""
    if depth == 1:
        return list(leaves)
    inner = tests_upto(leaves, depth - 1)
    pairs = list(product(inner, inner))
    return (
        list(leaves)
        + [("not", test) for test in inner]
        + [("and", one, other) for one, other in pairs]
        + [("or", one, other) for one, other in pairs]
    )


def all_values(kind):
    """All values of a kind, rising."""
    return product(*[range(low, high + 1) for name, low, high in kind.fields])


# The kind KINDS[n] takes n + 1 cells.
KINDS = tuple(Kind("abcde"[many], tuple((name, 0, 9) for name in "wxyz"[:many])) for many in range(5))


def write(lane, kind, time=0, values=None):
    """Claim, fill and give in an event; its ticket, or None where it is missed."""
    ticket = lane.claim(kind, time)
    if ticket is not None:
        if values is not None:
            lane.fill(ticket, values)
        lane.give(ticket)
    return ticket


def shown(lane):
    """All that can be asked of a lane without changing it."""
    tickets = lane.pending()
    return (
        lane.look(), tickets, [lane.event(ticket) for ticket in tickets], lane.counts(), lane.pages_now(), len(lane),
        repr(lane),
    )


def all_taken(lane):
    """What is taken until there is none."""
    told = []
    thing = lane.take()
    while thing is not None:
        told.append(thing)
        thing = lane.take()
    return told


def places(told):
    """What was told, the events by their places alone."""
    return [thing if thing[0] == "lost" else thing[1] for thing in told]


class Case(unittest.TestCase):
    def refused(self, error, lane, deed, *handed):
        """A deed is refused by this error and leaves the lane as it was."""
        ahead = shown(lane)
        with self.assertRaises(error) as caught:
            getattr(lane, deed)(*handed)
        self.assertIs(type(caught.exception), error)
        self.assertEqual(shown(lane), ahead)
        return caught.exception


class PlainLane:
    """A lane that forgets nothing: each claim that was ever made, with its page, and what became of it."""

    def __init__(self, pages, room, over):
        self.pages, self.room, self.over = pages, room, over
        self.claims = []
        self.row = [0]
        self.cells = {0: 0}
        self.held = None
        self.told = set()
        self.lost = 0

    def those(self, *states):
        return [claim for claim in self.claims if claim["state"] in states]

    def claim(self, kind, time):
        if any(time < claim["time"] for claim in self.claims):
            raise BadTime()
        claim = {"ticket": len(self.claims) + 1, "time": time, "kind": kind, "values": kind.lowest(), "page": None}
        claim["state"] = "open" if self.find_room(kind.cells()) else "missed"
        self.claims.append(claim)
        if claim["state"] == "missed":
            return None
        claim["page"] = self.row[-1]
        self.cells[self.row[-1]] += kind.cells()
        return claim["ticket"]

    def loose(self):
        return [page for page in self.row if page != self.held]

    def lose(self, page):
        self.row.remove(page)
        self.lost += len([claim for claim in self.those("given") if claim["page"] == page])

    def is_busy(self, page):
        return any(claim["page"] == page for claim in self.those("open"))

    def find_room(self, cells):
        if self.cells[self.row[-1]] + cells > self.room:
            loose = self.loose()
            if len(loose) + 1 > self.pages:
                if not self.over or self.is_busy(loose[0]):
                    return False
                self.lose(loose[0])
            self.row.append(max(self.cells) + 1)
            self.cells[self.row[-1]] = 0
        return True

    def asked(self, ticket):
        for claim in self.those("open"):
            if claim["ticket"] == ticket:
                return claim
        raise NoTicket()

    def top(self, ticket):
        claim = self.asked(ticket)
        if claim is not self.those("open")[-1]:
            raise NotTop()
        return claim

    def fill(self, ticket, values):
        claim = self.asked(ticket)
        claim["kind"].need(values)
        claim["values"] = values

    def give(self, ticket):
        self.top(ticket)["state"] = "given"

    def throw(self, ticket):
        claim = self.top(ticket)
        claim["state"] = "stays"
        behind = [other for other in self.those("given", "open", "stays") if other["ticket"] > ticket]
        if claim["page"] == self.row[-1] and all(other["page"] != claim["page"] for other in behind):
            claim["state"] = "freed"
            self.cells[claim["page"]] -= claim["kind"].cells()

    def plain_row(self):
        """Each event that was given in, as it would be told, with whether it is whole, its ticket and its page."""
        rows = []
        for place, claim in enumerate(self.those("given")):
            whole = all(other["ticket"] > claim["ticket"] for other in self.those("open"))
            told = ("event", place, claim["time"], claim["kind"].name, claim["values"])
            rows.append((told, whole, claim["ticket"], claim["page"]))
        return rows

    def take(self):
        ahead = []
        for told, whole, ticket, page in self.plain_row():
            if ticket in self.told:
                continue
            if page not in self.row:
                ahead.append(ticket)
            elif not whole:
                return None
            elif ahead:
                self.told.update(ahead)
                return ("lost", len(ahead))
            else:
                self.told.add(ticket)
                self.row = [other for other in self.row if other >= page]
                self.held = page
                return told
        return None

    def look(self):
        return self.untold(self.told)

    def untold(self, told):
        """What a reader would be told that was told of these tickets."""
        found, ahead = [], 0
        for event, whole, ticket, page in self.plain_row():
            if ticket not in told:
                if page not in self.row:
                    ahead += 1
                elif whole:
                    found += ([("lost", ahead)] if ahead else []) + [event]
                    ahead = 0
        return found

    def seen_from(self, place):
        """What a looker at a place would be told."""
        return self.untold({ticket for told, whole, ticket, page in self.plain_row() if told[1] < place})

    def resize(self, pages):
        if not 2 <= pages <= 16:
            raise BadSize()
        going = self.loose()[:max(0, len(self.loose()) - pages)]
        if any(self.is_busy(page) for page in going):
            raise Busy()
        for page in going:
            self.lose(page)
        self.pages = pages

    def pending(self):
        return [claim["ticket"] for claim in self.those("open")]

    def event(self, ticket):
        claim = self.asked(ticket)
        return (claim["time"], claim["kind"].name, claim["values"])

    def counts(self):
        return (len(self.those("given")), len(self.those("stays", "freed")), self.lost, len(self.those("missed")))

    def pages_now(self):
        return [self.cells[page] for page in self.row]

    def __len__(self):
        return len([thing for thing in self.look() if thing[0] == "event"])

    def __repr__(self):
        return f"Lane({len(self.row)} pages, {len(self)} whole)"


class RingCase(unittest.TestCase):
    def check_ring(self, found, lanes, ties, most):
        """A list is a ring of these ties and of bounds, which no amounts meet."""
        self.assertIsInstance(found, list)
        bounds = [(lane, -1, 0) for lane in range(lanes)] + [(-1, lane, 0 - most) for lane in range(lanes)]
        for at, tie in enumerate(found):
            self.assertIn(tie, ties + bounds)
            # The one ahead of the first is the last one.
            self.assertEqual(found[at - 1][1], tie[0], found)
        ones = [one for one, other, least in found]
        self.assertEqual(len(ones), len(set(ones)), found)
        self.assertGreater(sum(least for one, other, least in found), 0, found)


SEND = ("send", (("size", 0, 9), ("to", 1, 4)))
# Two kinds, of three cells and of one, a lane that writes over and one that misses.
BASE = (("kind",) + SEND, ("kind", "idle", ()), ("lane", "a", True), ("lane", "b", False))


def recorder_of(*deeds, pages=2, room=5):
    """A recorder that did BASE and then these deeds."""
    recorder = Recorder(pages=pages, room=room)
    for deed in BASE + deeds:
        recorder.do(deed)
    return recorder


def call(recorder, deed):
    """Do a deed by its method; what stands behind the star is handed in by its name."""
    word, *handed = deed
    named = {"lane": "over", "tally": "keys"}.get(word)
    method = getattr(recorder, word)
    return method(*handed[:-1], **{named: handed[-1]}) if named else method(*handed)


def shown_recorder(recorder):
    """All that can be asked of a recorder without changing it."""
    lanes, tallies = recorder.lanes(), recorder.tallies()
    return (
        [(kind.name, kind.fields) for kind in recorder.kinds()], lanes, tallies,
        [(recorder.now(lane), recorder.test_of(lane), recorder.look(lane)) for lane in lanes],
        [(recorder.pending(lane), recorder.counts(lane), recorder.looker(lane).more()) for lane in lanes],
        [(recorder.table(name), recorder.dropped(name)) for name in tallies],
        recorder.stopped(), recorder.halted_by(), recorder.done(), len(recorder),
    )


def word_of(act):
    """What is told, or the word of the refusal."""
    try:
        return ("told", act())
    except (ScribeError, Missing, PlainRefusal) as error:
        return ("refused", error.word, getattr(error, "step", None), getattr(error, "why", None))


class PlainState:
    """How a plain recorder stands: plain lanes, and all events that were given in since each tally was made."""

    def __init__(self, pages, room):
        self.size = (pages, room)
        self.kinds, self.lanes, self.clocks, self.tests, self.tallies = {}, {}, {}, {}, {}
        self.stopped, self.halt = False, None

    def need(self, met, word):
        if not met:
            raise PlainRefusal(word)

    def need_free(self, name, borne):
        self.need(is_plain_name(name), "badname")
        self.need(name not in borne, "taken")

    def top(self, lane):
        self.need(lane in self.lanes, "nolane")
        self.need(self.lanes[lane].pending(), "noticket")
        return self.lanes[lane].pending()[-1]

    def kind(self, name, fields):
        self.need_free(name, self.kinds)
        self.need(len(self.kinds) < 8, "full")
        self.kinds[name] = Kind(name, fields)

    def lane(self, name, over):
        self.need_free(name, self.lanes)
        self.need(len(self.lanes) < 6, "full")
        self.lanes[name], self.clocks[name], self.tests[name] = PlainLane(*self.size, over), 0, ALL

    def tick(self, lane, steps):
        self.need(lane in self.lanes, "nolane")
        self.need(0 <= steps <= LIMIT, "badtime")
        self.clocks[lane] += steps

    def claim(self, lane, kind):
        self.need(lane in self.lanes, "nolane")
        self.need(kind in self.kinds, "nokind")
        self.need(not self.stopped, "stopped")
        return self.lanes[lane].claim(self.kinds[kind], self.clocks[lane])

    def fill(self, lane, values):
        ticket = self.top(lane)
        self.lanes[lane].fill(ticket, values)

    def give(self, lane):
        ticket = self.top(lane)
        time, name, values = self.lanes[lane].event(ticket)
        if not holds(self.tests[lane], self.kinds[name], values):
            self.lanes[lane].throw(ticket)
            return False
        self.lanes[lane].give(ticket)
        for test, keys, noted in self.tallies.values():
            noted.append((self.kinds[name], values))
        self.stopped = self.stopped or self.halt is not None and holds(self.halt, self.kinds[name], values)
        return True

    def throw(self, lane):
        ticket = self.top(lane)
        self.lanes[lane].throw(ticket)

    def write(self, lane, kind, values):
        if self.claim(lane, kind) is None:
            return None
        self.fill(lane, values)
        return self.give(lane)

    def take(self, lane):
        self.need(lane in self.lanes, "nolane")
        return self.lanes[lane].take()

    def resize(self, lane, pages):
        self.need(lane in self.lanes, "nolane")
        self.lanes[lane].resize(pages)

    def sieve(self, lane, test):
        self.need(lane in self.lanes, "nolane")
        self.need(is_test(test), "badtest")
        self.tests[lane] = test

    def tally(self, name, test, keys):
        self.need_free(name, self.tallies)
        self.need(is_test(test), "badtest")
        self.need(len(set(keys)) == len(keys) < 5 and all(is_plain_name(key) for key in keys), "badkeys")
        self.need(len(self.tallies) < 4, "full")
        self.tallies[name] = (test, keys, [])

    def set_halt(self, test):
        self.need(test is None or is_test(test), "badtest")
        self.halt = test

    def stop(self):
        self.stopped = True

    def go(self):
        self.stopped = False

    def do(self, deed):
        word, *handed = deed
        if word == "whole":
            told = []
            for step, inner in enumerate(handed[0]):
                try:
                    told.append(self.do(inner))
                except (ScribeError, Missing, PlainRefusal) as error:
                    raise Broken(step, error.word)
            return told
        return (self.set_halt if word == "halt" else getattr(self, word))(*handed)

    def table(self, name):
        """The counts of a tally, and how many events it dropped."""
        test, keys, noted = self.tallies[name]
        found, dropped = {}, 0
        for kind, values in noted:
            fields = [field for field, low, high in kind.fields]
            if holds(test, kind, values) and all(key in fields for key in keys):
                key = tuple(values[fields.index(key)] for key in keys)
                if key in found or len(found) < 16:
                    found[key] = found.get(key, 0) + 1
                else:
                    dropped += 1
        return sorted(found.items()), dropped


class PlainRefusal(Exception):
    def __init__(self, word):
        super().__init__(word)
        self.word = word


def is_plain_name(name):
    return 1 <= len(name) <= 8 and all(letter in "abcdefghijklmnopqrstuvwxyz" for letter in name)


class PlainRecorder:
    """A recorder that keeps the deeds that stand, and does all of them anew whenever it is asked."""

    def __init__(self, pages, room):
        self.size = (pages, room)
        self.deeds, self.undone = [], []

    def state(self):
        state = PlainState(*self.size)
        for deed in self.deeds:
            state.do(deed)
        return state

    def do(self, deed):
        told = self.state().do(deed)
        self.deeds.append(deed)
        self.undone.clear()
        return told

    def undo(self):
        return self.go_over(self.deeds, self.undone)

    def redo(self):
        return self.go_over(self.undone, self.deeds)

    def go_over(self, source, goal):
        if not source:
            raise PlainRefusal("nothingleft")
        goal.append(source.pop())
        return goal[-1]

    def shown(self):
        """As shown_recorder tells of a recorder."""
        state = self.state()
        lanes, tallies = list(state.lanes), sorted(state.tallies)
        rows = [(name, state.lanes[name]) for name in lanes]
        return (
            [(name, state.kinds[name].fields) for name in sorted(state.kinds)], lanes, tallies,
            [(state.clocks[name], state.tests[name], lane.look()) for name, lane in rows],
            [(lane.pending(), lane.counts(), lane.seen_from(0)) for name, lane in rows],
            [state.table(name) for name in tallies],
            state.stopped, state.halt, list(self.deeds), sum(len(lane) for name, lane in rows),
        )
