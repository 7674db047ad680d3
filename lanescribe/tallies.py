"""Tallies: counts of the events that pass a test, by the values of some fields."""

from lanescribe.errors import BadKeys, BadSize
from lanescribe.kinds import is_name
from lanescribe.sieve import need_test, passes

MOST_KEYS = 16
KEYS_LIMIT = 64
MOST_NAMED = 4


def need_keys(keys):
    if len(keys) > MOST_NAMED:
        raise BadKeys(f"{len(keys)} fields are more than {MOST_NAMED}")
    for at, name in enumerate(keys):
        if not is_name(name) or name in keys[:at]:
            raise BadKeys(f"{name!r} is no name, or stands twice")


class Tally:
    """Counts of events by the values of the fields named in keys."""

    def __init__(self, test, keys, *, most=MOST_KEYS):
        need_test(test)
        need_keys(keys)
        if not 1 <= most <= KEYS_LIMIT:
            raise BadSize(f"a tally can't count {most} keys")
        self.test = test
        self.named = tuple(keys)
        self.most = most
        self.counted = {}
        self.beyond = 0

    def note(self, kind, values):
        """Whether an event is counted: it passes the test, has all fields, and its key is there or can still be."""
        kind.need(values)
        places = [kind.place_of(name) for name in self.named]
        if None in places or not passes(self.test, kind, values):
            return False
        key = tuple([values[place] for place in places])
        if key not in self.counted and len(self.counted) == self.most:
            self.beyond += 1
            return False
        self.counted[key] = self.counted.get(key, 0) + 1
        return True

    def table(self):
        """The pairs (key, count), rising."""
        return sorted(self.counted.items())

    def dropped(self):
        """How many events were dropped, since their keys were too many."""
        return self.beyond

    def twin(self):
        """A tally that has all that this one has, and goes its own way."""
        other = Tally(self.test, self.named, most=self.most)
        other.counted = dict(self.counted)
        other.beyond = self.beyond
        return other

    def __len__(self):
        return len(self.counted)
