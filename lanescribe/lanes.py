"""Lanes: rows of pages in which writers claim room for events, and from which a reader takes them."""

from lanescribe.errors import BadSize, BadTime, Busy, NoTicket, NotTop
from lanescribe.kinds import Kind

PAGES = 4
ROOM = 8
FEWEST_PAGES = 2
MOST_PAGES = 16
LEAST_ROOM = 5
MOST_ROOM = 12


def need_pages(pages):
    if not FEWEST_PAGES <= pages <= MOST_PAGES:
        raise BadSize(f"a lane can't have {pages} pages")


def need_room(room):
    if not LEAST_ROOM <= room <= MOST_ROOM:
        raise BadSize(f"a page can't have {room} cells")


def told_from(events, place):
    """What a reader at a place is told of events that are there: what was lost stands ahead of each gap's end."""
    told = []
    for event in events:
        if event[1] > place:
            told.append(("lost", event[1] - place))
        if event[1] >= place:
            told.append(event)
            place = event[1] + 1
    return told


def place_behind(place, told):
    """The place of a reader behind what it was told."""
    for thing in told:
        place += thing[1] if thing[0] == "lost" else 1
    return place


class Claim:
    """Room for one event; open until it is given in, and taken out of its page where it is thrown back."""

    def __init__(self, ticket, time, kind):
        self.ticket = ticket
        self.time = time
        self.form = Kind(kind.name, kind.fields)
        self.filled = kind.lowest()
        self.given = False

    def told_at(self, place):
        return ("event", place, self.time, self.form.name, self.filled)

    def twin(self):
        other = Claim(self.ticket, self.time, self.form)
        other.filled = self.filled
        other.given = self.given
        return other


class Page:
    """Claims that are open or given in, the cells that are taken, and how many events left the row right ahead."""

    def __init__(self):
        self.claims = []
        self.used = 0
        self.gone = 0

    def unclosed(self):
        return [claim for claim in self.claims if not claim.given]

    def without(self, ticket):
        return [claim for claim in self.claims if claim.ticket != ticket]

    def twin(self):
        other = Page()
        other.claims = [claim.twin() for claim in self.claims]
        other.used = self.used
        other.gone = self.gone
        return other


class Lane:
    """A row of pages, the eldest first; only its first page can be held, since those ahead of a held one leave."""

    def __init__(self, *, pages=PAGES, room=ROOM, over=True):
        need_pages(pages)
        need_room(room)
        self.most = pages
        self.room = room
        self.over = over
        self.pages = [Page()]
        self.held = False
        self.told = 0
        self.last_time = None
        self.tickets = 0
        self.given_in = 0
        self.thrown_back = 0
        self.lost = 0
        self.missed = 0

    def claim(self, kind, time):
        """Room for an event of a kind: the ticket of the claim, or None where it is missed."""
        if self.last_time is not None and time < self.last_time:
            raise BadTime(f"{time} is below {self.last_time}")
        self.last_time = time
        self.tickets += 1
        if not self.make_room(kind.cells()):
            self.missed += 1
            return None
        head = self.pages[-1]
        head.used += kind.cells()
        head.claims.append(Claim(self.tickets, time, kind))
        return self.tickets

    def make_room(self, cells):
        """Whether the head has so many cells left; a new page becomes the head where this is needed and can be."""
        if self.pages[-1].used + cells <= self.room:
            return True
        if len(self.pages) - self.eldest() >= self.most:
            if not self.over or self.pages[self.eldest()].unclosed():
                return False
            self.lose_eldest()
        self.pages.append(Page())
        return True

    def eldest(self):
        """The number in the row of the eldest page that is not held."""
        return 1 if self.held else 0

    def lose_eldest(self):
        self.lost += len(self.pages[self.eldest()].claims)
        self.leave(self.eldest())

    def leave(self, number):
        """A page without open claims leaves the row; the next one keeps count of the events that went with it."""
        page = self.pages.pop(number)
        later = self.pages[number]
        later.gone += page.gone + len(page.claims)

    def waiting(self):
        """All open claims, in order."""
        return [claim for page in self.pages for claim in page.unclosed()]

    def waiting_with(self, ticket):
        for claim in self.waiting():
            if claim.ticket == ticket:
                return claim
        raise NoTicket(f"no open claim has the ticket {ticket}")

    def last_waiting(self, ticket):
        claim = self.waiting_with(ticket)
        if self.waiting()[-1].ticket != ticket:
            raise NotTop(f"a claim behind {ticket} is still open")
        return claim

    def fill(self, ticket, values):
        """Give an open claim its values."""
        claim = self.waiting_with(ticket)
        claim.form.need(values)
        claim.filled = tuple(values)

    def give(self, ticket):
        """Give in the last open claim as an event."""
        claim = self.last_waiting(ticket)
        claim.given = True
        self.given_in += 1

    def throw(self, ticket):
        """Throw back the last open claim."""
        claim = self.last_waiting(ticket)
        head = self.pages[-1]
        # Cells of what was thrown back stay taken only ahead of a claim that is still there, so claims tell enough.
        if len(head.claims) > 0 and head.claims[-1].ticket == ticket:
            head.used -= claim.form.cells()
        for page in self.pages:
            page.claims = page.without(ticket)
        self.thrown_back += 1

    def standing(self):
        """All whole events whose pages are in the row, in order, taken ones too."""
        events = []
        place = 0
        for page in self.pages:
            place += page.gone
            for claim in page.claims:
                if not claim.given:
                    return events
                events.append(claim.told_at(place))
                place += 1
        return events

    def look(self):
        """The list of what taking would tell, till None."""
        return told_from(self.standing(), self.told)

    def take(self):
        """The first whole event that was not taken, or how many were lost ahead of it; None where there is none."""
        told = self.look()
        if len(told) == 0:
            return None
        if told[0][0] == "event":
            self.hold(told[0][1])
        self.told = place_behind(self.told, told[:1])
        return told[0]

    def hold(self, place):
        """The page of the whole event at a place becomes the first one, and is held."""
        while place >= self.pages[0].gone + len(self.pages[0].claims):
            self.leave(0)
        self.held = True

    def pending(self):
        """The tickets of the open claims, rising."""
        return [claim.ticket for claim in self.waiting()]

    def event(self, ticket):
        """What an open claim holds so far: (time, kind's name, values)."""
        claim = self.waiting_with(ticket)
        return (claim.time, claim.form.name, claim.filled)

    def resize(self, pages):
        """So many pages may be there from now on; the eldest are lost where there are more."""
        need_pages(pages)
        first = self.eldest()
        extra = len(self.pages) - first - pages
        for number in range(first, first + extra):
            if self.pages[number].unclosed():
                raise Busy("a claim is open in a page that would be lost")
        for turn in range(extra):
            self.lose_eldest()
        self.most = pages

    def counts(self):
        """How many were given in, thrown back, lost and missed."""
        return (self.given_in, self.thrown_back, self.lost, self.missed)

    def pages_now(self):
        """How many cells are taken in each page of the row."""
        return [page.used for page in self.pages]

    def twin(self):
        """A lane that has all that this one has, and goes its own way."""
        other = Lane(pages=self.most, room=self.room, over=self.over)
        other.pages = [page.twin() for page in self.pages]
        other.held = self.held
        other.told = self.told
        other.last_time = self.last_time
        other.tickets = self.tickets
        other.given_in = self.given_in
        other.thrown_back = self.thrown_back
        other.lost = self.lost
        other.missed = self.missed
        return other

    def __len__(self):
        return len([event for event in self.standing() if event[1] >= self.told])

    def __repr__(self):
        return f"Lane({len(self.pages)} pages, {len(self)} whole)"
