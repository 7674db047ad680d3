"""The refusals: each class has the field `word`, its own name in small letters."""


class ScribeError(ValueError):
    """Any refusal of what is handed in."""

    def __init__(self, words="", word="scribeerror"):
        ValueError.__init__(self, words)
        self.word = word


class BadName(ScribeError):
    """A name that is none."""

    def __init__(self, words=""):
        ScribeError.__init__(self, words, "badname")


class BadBounds(ScribeError):
    """A field's bounds that are too wide or the wrong way round."""

    def __init__(self, words=""):
        ScribeError.__init__(self, words, "badbounds")


class BadTest(ScribeError):
    """A tuple or a text that is no test."""

    def __init__(self, words=""):
        ScribeError.__init__(self, words, "badtest")


class BadWay(ScribeError):
    """A pair that is no way."""

    def __init__(self, words=""):
        ScribeError.__init__(self, words, "badway")


class BadSize(ScribeError):
    """A size, an amount or a place beyond what is allowed."""

    def __init__(self, words=""):
        ScribeError.__init__(self, words, "badsize")


class BadTime(ScribeError):
    """A time that falls, or steps that no clock can go."""

    def __init__(self, words=""):
        ScribeError.__init__(self, words, "badtime")


class BadKeys(ScribeError):
    """A tally's keys that are none."""

    def __init__(self, words=""):
        ScribeError.__init__(self, words, "badkeys")


class BadTie(ScribeError):
    """A tie between lanes that are none or alike, or with too great a least."""

    def __init__(self, words=""):
        ScribeError.__init__(self, words, "badtie")


class BadCause(ScribeError):
    """A cause between lanes that are none or alike, or at times that are none."""

    def __init__(self, words=""):
        ScribeError.__init__(self, words, "badcause")


class BadPairs(ScribeError):
    """Pairs of kinds with a name that is none, or that stands twice."""

    def __init__(self, words=""):
        ScribeError.__init__(self, words, "badpairs")


class Taken(ScribeError):
    """A name that is borne already."""

    def __init__(self, words=""):
        ScribeError.__init__(self, words, "taken")


class Full(ScribeError):
    """One thing more than there may be."""

    def __init__(self, words=""):
        ScribeError.__init__(self, words, "full")


class NotTop(ScribeError):
    """A claim that is open, but not the last one of those."""

    def __init__(self, words=""):
        ScribeError.__init__(self, words, "nottop")


class Stopped(ScribeError):
    """A claim of a recorder that is stopped."""

    def __init__(self, words=""):
        ScribeError.__init__(self, words, "stopped")


class Busy(ScribeError):
    """A page that would have to go while a claim is open in it."""

    def __init__(self, words=""):
        ScribeError.__init__(self, words, "busy")


class NothingLeft(ScribeError):
    """No deed is left to be taken back or done again."""

    def __init__(self, words=""):
        ScribeError.__init__(self, words, "nothingleft")


class BadValue(ScribeError):
    """Values that are not one number within its bounds for each field; `at` is the first place that is wrong."""

    def __init__(self, at):
        ScribeError.__init__(self, f"the values are wrong at {at}", "badvalue")
        self.at = at


class BadDump(ScribeError):
    """A text that is no dump; `row` is the first row that is wrong."""

    def __init__(self, row):
        ScribeError.__init__(self, f"the dump is wrong at row {row}", "baddump")
        self.row = row


class Broken(ScribeError):
    """A row of deeds of which one was refused: `step` is its number, `why` the word of its refusal."""

    def __init__(self, step, why):
        ScribeError.__init__(self, f"step {step} was refused: {why}", "broken")
        self.step = step
        self.why = why


class Missing(LookupError):
    """Something is asked for that is not there."""

    def __init__(self, words="", word="missing"):
        LookupError.__init__(self, words)
        self.word = word


class NoLane(Missing):
    """No lane bears that name."""

    def __init__(self, words=""):
        Missing.__init__(self, words, "nolane")


class NoKind(Missing):
    """No kind bears that name."""

    def __init__(self, words=""):
        Missing.__init__(self, words, "nokind")


class NoTicket(Missing):
    """No open claim has that ticket."""

    def __init__(self, words=""):
        Missing.__init__(self, words, "noticket")


class NoTally(Missing):
    """No tally bears that name."""

    def __init__(self, words=""):
        Missing.__init__(self, words, "notally")
