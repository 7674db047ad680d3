"""The desk: a recorder that is spoken to in lines, and answers each by a text."""

from lanescribe.dumps import number_of, row_text
from lanescribe.errors import BadTest, Missing, ScribeError
from lanescribe.kinds import is_name
from lanescribe.lanes import PAGES, ROOM
from lanescribe.recorder import Recorder
from lanescribe.sieve import read_test

# For each first word of a line: what is due behind it word by word, and what each further word is, None for none.
FORMS = {
    "kind": (("name",), "field"),
    "lane": (("name", "over"), None),
    "tick": (("name", "number"), None),
    "claim": (("name", "name"), None),
    "fill": (("name",), "number"),
    "give": (("name",), None),
    "throw": (("name",), None),
    "write": (("name", "name"), "number"),
    "take": (("name",), None),
    "resize": (("name", "number"), None),
    "sieve": (("name", "test"), None),
    "tally": (("name", "test"), "name"),
    "halt": (("halt",), None),
    "stop": ((), None),
    "go": ((), None),
    "undo": ((), None),
    "redo": ((), None),
    "counts": (("name",), None),
    "look": (("name",), None),
    "table": (("name",), None),
}
OVER = {"over": True, "stop": False}


class Unread(Exception):
    """A line that is none of the desk's."""


def name_from(word):
    if not is_name(word):
        raise Unread("no name")
    return word


def number_from(word):
    number = number_of(word)
    if number is None:
        raise Unread("no number")
    return number


def field_from(word):
    parts = word.split(":")
    if len(parts) != 3:
        raise Unread("no field")
    return (name_from(parts[0]), number_from(parts[1]), number_from(parts[2]))


def over_from(word):
    if word not in OVER:
        raise Unread("neither over nor stop")
    return OVER[word]


def test_from(word):
    # What is no test is handed on as one that is none, so that refusals named ahead of BadTest come first.
    try:
        return read_test(word)
    except BadTest:
        return ()


def halt_from(word):
    return None if word == "-" else test_from(word)


READERS = {
    "name": name_from, "number": number_from, "field": field_from, "over": over_from, "test": test_from,
    "halt": halt_from,
}


def read_word(part, word):
    read = READERS[part]
    return read(word)


def read_line(line):
    """A line as a tuple of its first word and all that is handed in behind it."""
    first, *words = line.split(" ")
    if first not in FORMS or "" in words:
        raise Unread("no such line")
    parts, further = FORMS[first]
    spare = words[len(parts):]
    if len(words) < len(parts) or (further is None and len(spare) > 0):
        raise Unread("too few words, or too many")
    handed = [read_word(part, word) for part, word in zip(parts, words)]
    if further is not None:
        handed.append(tuple([read_word(further, word) for word in spare]))
    return (first,) + tuple(handed)


def text_of_told(word, told):
    """The answer to a deed, by its name and what it told."""
    if word == "take":
        return "none" if told is None else row_text(told)
    if word == "claim":
        return "missed" if told is None else str(told)
    if word == "write" and told is None:
        return "missed"
    if word in ("give", "write"):
        return "given" if told else "thrown"
    return "done"


def joined(sign, texts):
    return "none" if len(texts) == 0 else sign.join(texts)


def pair_text(key, count):
    values = "/".join([str(value) for value in key])
    return f"{values}:{count}"


class Desk:
    """A recorder, and the answers to lines that are said to it."""

    def __init__(self, *, pages=PAGES, room=ROOM):
        self.recorder = Recorder(pages=pages, room=room)

    def say(self, line):
        """The answer to a line."""
        try:
            asked = read_line(line)
        except Unread:
            return "what"
        try:
            return self.answer(asked)
        except (ScribeError, Missing) as error:
            return f"no {error.word}"

    def answer(self, asked):
        word = asked[0]
        if word == "undo":
            return text_of_told(word, self.recorder.undo())
        if word == "redo":
            return text_of_told(word, self.recorder.redo())
        if word == "counts":
            return " ".join([str(count) for count in self.recorder.counts(asked[1])])
        if word == "look":
            return joined(", ", [row_text(thing) for thing in self.recorder.look(asked[1])])
        if word == "table":
            return joined(" ", [pair_text(key, count) for key, count in self.recorder.table(asked[1])])
        return text_of_told(word, self.recorder.do(asked))
