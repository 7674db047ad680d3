"""Dumps: what a looker was told, as a text of rows."""

from lanescribe.errors import BadDump
from lanescribe.kinds import is_name
from lanescribe.lanes import place_behind

MOST_FIGURES = 30


def number_of(word):
    """The number that a word stands for, or None."""
    figures = word.removeprefix("-")
    if not figures.isascii() or not figures.isdigit() or len(figures) > MOST_FIGURES:
        return None
    number = int(word)
    # One number has one text: this sorts out needless noughts and -0.
    return number if str(number) == word else None


def row_text(thing):
    """One thing that was told, as a dump's row without its line feed."""
    if thing[0] == "lost":
        return f"lost {thing[1]}"
    word, place, time, kind, values = thing
    return " ".join([word, str(place), str(time), kind] + [str(value) for value in values])


def dump(told):
    """The text of what was told."""
    return "".join([row_text(thing) + "\n" for thing in told])


def read_row(row):
    """The thing that a row tells, whatever stands ahead of it, or None."""
    words = row.split(" ")
    if words[0] == "lost":
        return read_lost(words)
    return read_event(words) if words[0] == "event" else None


def read_lost(words):
    many = number_of(words[1]) if len(words) == 2 else None
    return None if many is None or many < 1 else ("lost", many)


def read_event(words):
    if len(words) < 4 or not is_name(words[3]):
        return None
    numbers = [number_of(word) for word in words[1:3] + words[4:]]
    if None in numbers:
        return None
    return ("event", numbers[0], numbers[1], words[3], tuple(numbers[2:]))


def goes_on(thing, place, time):
    """Whether a looker at a place, which was told of that time last, could be told a thing next."""
    if thing[0] == "lost":
        return True
    return thing[1] == place and (time is None or thing[2] >= time)


def read_rows(text):
    """What all rows ahead of the first wrong one tell, and the number of this one, or None without one."""
    *rows, rest = text.split("\n")
    told = []
    place = 0
    time = None
    for number, row in enumerate(rows):
        thing = read_row(row)
        if thing is None or not goes_on(thing, place, time):
            return told, number
        told.append(thing)
        place = place_behind(place, [thing])
        if thing[0] == "event":
            time = thing[2]
    wrong = None if rest == "" else len(rows)
    return told, wrong


def read_dump(text):
    """The list of what was told."""
    told, wrong = read_rows(text)
    if wrong is not None:
        raise BadDump(wrong)
    return told


def mended(text):
    """The list of what was told by the rows ahead of the first wrong one."""
    told, wrong = read_rows(text)
    return told
