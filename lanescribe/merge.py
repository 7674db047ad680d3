"""Rows of several lanes laid into one order by true times, or a ring that tells why none is there."""

from lanescribe.clocks import MOST_AMOUNT, MOST_LANES, amounts, need_ties, ring
from lanescribe.errors import BadCause, BadSize
from lanescribe.kinds import LIMIT


def need_cause(lane, time, other, second):
    if not 0 <= lane < MOST_LANES or not 0 <= other < MOST_LANES or lane == other:
        raise BadCause(f"{lane} and {other} are no two lanes")
    if not 0 <= time < LIMIT or not 0 <= second < LIMIT:
        raise BadCause(f"{time} and {second} are no two times")


def ties_of(causes):
    """The ties that hold just where each cause was truly ahead."""
    for lane, time, other, second in causes:
        need_cause(lane, time, other, second)
    return [(other, lane, time - second + 1) for lane, time, other, second in causes]


def merged(rows, row):
    """The pairs (lane, event) of all events of several lanes, in the order of their true times."""
    if len(row) != len(rows):
        raise BadSize(f"{len(row)} amounts are not one for each of {len(rows)} lanes")
    pairs = [(lane, thing) for lane, told in enumerate(rows) for thing in told if thing[0] == "event"]
    return sorted(pairs, key=lambda pair: (row[pair[0]] + pair[1][2], pair[0], pair[1][1]))


def ordered(rows, causes, *, most=MOST_AMOUNT):
    """The order of all events by the least amounts that meet all causes, or the ring where there are none."""
    ties = ties_of(causes)
    # A lane without a row is refused ahead of too few or too many rows; amounts refuses the other way about.
    need_ties(len(rows), ties)
    least = amounts(len(rows), ties, most=most)
    if least is None:
        return ("ring", ring(len(rows), ties, most=most))
    return ("order", least, merged(rows, least))
