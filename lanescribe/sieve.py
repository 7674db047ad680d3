"""Tests of events: which tuples are tests, their texts, and which events pass them."""

from lanescribe.errors import BadTest
from lanescribe.kinds import LIMIT, is_name

MOST_PARTS = 15
MOST_DEEP = 5
LETTERS = "abcdefghijklmnopqrstuvwxyz"
FIGURES = "0123456789"
# How many tests each form is made of; the forms that don't stand here are leaves.
WITHIN = {"not": 1, "and": 2, "or": 2}
SIGN_OF = {"less": "<", "same": "="}
FORM_OF = {"<": "less", "=": "same"}


def is_word(thing):
    return isinstance(thing, str) and is_name(thing)


def is_number(thing):
    return isinstance(thing, int) and not isinstance(thing, bool) and -LIMIT <= thing <= LIMIT


def is_leaf(test):
    form = test[0]
    if form == "all":
        return len(test) == 1
    if form == "is":
        return len(test) == 2 and is_word(test[1])
    return form in SIGN_OF and len(test) == 3 and is_word(test[1]) and is_number(test[2])


def count_parts(thing, deep):
    """How many parts a test has that is at most so deep; 0 for anything else."""
    if deep == 0 or not isinstance(thing, tuple) or len(thing) == 0:
        return 0
    if is_leaf(thing):
        return 1
    if WITHIN.get(thing[0]) != len(thing) - 1:
        return 0
    counts = [count_parts(part, deep - 1) for part in thing[1:]]
    return 0 if 0 in counts else 1 + sum(counts)


def is_test(test):
    """Whether a tuple is a test."""
    return 1 <= count_parts(test, MOST_DEEP) <= MOST_PARTS


def need_test(test):
    if not is_test(test):
        raise BadTest("this tuple is no test")


def leaves(test):
    """All leaves of a test from the left to the right, each as often as it stands."""
    need_test(test)
    return leaves_within(test)


def leaves_within(test):
    if test[0] not in WITHIN:
        return [test]
    found = []
    for part in test[1:]:
        found.extend(leaves_within(part))
    return found


def test_text(test):
    """The text of a test."""
    need_test(test)
    return text_within(test)


def text_within(test):
    form = test[0]
    if form in WITHIN:
        inner = ",".join([text_within(part) for part in test[1:]])
        return f"{form}({inner})"
    if form in SIGN_OF:
        return f"{test[1]}{SIGN_OF[form]}{test[2]}"
    return f"is:{test[1]}" if form == "is" else "all"


def read_test(text):
    """The test that has this text."""
    test, end = read_part(text, 0, MOST_DEEP)
    if end != len(text) or not is_test(test):
        raise BadTest("this text is no test's")
    return test


def read_part(text, at, deep):
    """The tuple whose text begins at a place, and the place behind it; is_test is still to be asked of it."""
    # A long text could nest far deeper than calls may, so the depth is looked at ahead of the rest.
    if deep == 0:
        raise BadTest("this text is deeper than a test's")
    end = end_of_run(text, at, LETTERS)
    word = text[at:end]
    sign = text[end:end + 1]
    if sign in FORM_OF:
        number, after = read_number(text, end + 1)
        return (FORM_OF[sign], word, number), after
    if word == "is" and sign == ":":
        after = end_of_run(text, end + 1, LETTERS)
        return ("is", text[end + 1:after]), after
    if word in WITHIN and sign == "(":
        return read_within(text, end + 1, word, deep)
    if word == "all":
        return ("all",), end
    raise BadTest(f"no test begins at {at}")


def read_within(text, at, form, deep):
    parts = []
    for number in range(WITHIN[form]):
        if number > 0:
            at = behind(text, at, ",")
        part, at = read_part(text, at, deep - 1)
        parts.append(part)
    return (form,) + tuple(parts), behind(text, at, ")")


def read_number(text, at):
    start = at + 1 if text[at:at + 1] == "-" else at
    end = end_of_run(text, start, FIGURES)
    # Python itself refuses to read a number of some thousand figures.
    if not 1 <= end - start <= len(str(LIMIT)):
        raise BadTest(f"no number stands at {at}")
    number = int(text[at:end])
    # One number has one text: this sorts out needless noughts and -0.
    if str(number) != text[at:end]:
        raise BadTest(f"the number at {at} has needless signs")
    return number, end


def end_of_run(text, at, signs):
    while at < len(text) and text[at] in signs:
        at += 1
    return at


def behind(text, at, sign):
    if text[at:at + 1] != sign:
        raise BadTest(f"{sign} is due at {at}")
    return at + 1


def holds(test, kind, values):
    """Whether an event of a kind, with these values, passes a test."""
    need_test(test)
    kind.need(values)
    return passes(test, kind, values)


def passes(test, kind, values):
    form = test[0]
    if form == "not":
        return not passes(test[1], kind, values)
    if form == "and":
        return passes(test[1], kind, values) and passes(test[2], kind, values)
    if form == "or":
        return passes(test[1], kind, values) or passes(test[2], kind, values)
    return passes_leaf(test, kind, values)


def passes_leaf(leaf, kind, values):
    form = leaf[0]
    if form == "all":
        return True
    if form == "is":
        return kind.name == leaf[1]
    place = kind.place_of(leaf[1])
    if place is None:
        return False
    return values[place] < leaf[2] if form == "less" else values[place] == leaf[2]


def parted(one, other, kind):
    """The least values of an event of that kind that passes just one of two tests, or None."""
    need_test(one)
    need_test(other)
    for values in corners(leaves_within(one) + leaves_within(other), kind):
        if passes(one, kind, values) != passes(other, kind, values):
            return values
    return None


def corners(found, kind):
    """All values, rising, at which each field stands where some leaf's answer may turn."""
    # Between two turns no leaf tells values apart, so the least values sought are among these.
    rows = [()]
    for name, low, high in kind.fields:
        steps = turns(found, name, low, high)
        rows = [row + (value,) for row in rows for value in steps]
    return rows


def turns(found, field, low, high):
    values = [low]
    for leaf in found:
        if leaf[0] in SIGN_OF and leaf[1] == field:
            values.append(leaf[2])
            # Behind its one value a `same` turns back.
            if leaf[0] == "same":
                values.append(leaf[2] + 1)
    return sorted({value for value in values if low <= value <= high})
