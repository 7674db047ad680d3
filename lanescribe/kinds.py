"""Names, and kinds of events with their fields."""

from lanescribe.errors import BadBounds, BadName, BadValue, Full, Taken

LIMIT = 999999
MOST_LETTERS = 8
MOST_FIELDS = 4


def is_name(text):
    """Whether a text is a name: 1 to 8 letters from a to z."""
    # isalpha and islower alone would let by letters of other scripts.
    return len(text) <= MOST_LETTERS and text.isascii() and text.isalpha() and text.islower()


def need_name(text):
    if not is_name(text):
        raise BadName(f"{text!r} is no name")


def need_fields(fields):
    seen = []
    for name, low, high in fields:
        need_name(name)
        if name in seen:
            raise Taken(f"the field {name} stands twice")
        if not -LIMIT <= low <= high <= LIMIT:
            raise BadBounds(f"the field {name} can't go from {low} to {high}")
        seen.append(name)


def bounds_text(fields):
    return ", ".join([f"{name} {low}..{high}" for name, low, high in fields])


class Kind:
    """A kind of events: its name, and its fields as triples (name, low, high)."""

    def __init__(self, name, fields=()):
        need_name(name)
        if len(fields) > MOST_FIELDS:
            raise Full(f"{len(fields)} fields are more than {MOST_FIELDS}")
        need_fields(fields)
        self.name = name
        self.fields = tuple(fields)

    def lowest(self):
        """The values of which each is its field's low."""
        return tuple([low for name, low, high in self.fields])

    def cells(self):
        """How many cells an event of this kind takes."""
        return 1 + len(self.fields)

    def place_of(self, field):
        """The number of the field of that name, or None."""
        for at, (name, low, high) in enumerate(self.fields):
            if name == field:
                return at
        return None

    def need(self, values):
        """Refuse values that are not one number within its bounds for each field."""
        for at, ((name, low, high), value) in enumerate(zip(self.fields, values)):
            if not low <= value <= high:
                raise BadValue(at)
        if len(values) != len(self.fields):
            raise BadValue(min(len(values), len(self.fields)))

    def __eq__(self, other):
        return isinstance(other, Kind) and self.name == other.name and self.fields == other.fields

    def __len__(self):
        return len(self.fields)

    def __str__(self):
        return f"{self.name}({bounds_text(self.fields)})"

    def __repr__(self):
        return f"Kind({self.name!r}, {self.fields!r})"
