"""Clocks of lanes that stand apart: the least amounts that meet all ties, or a ring of ties that none can meet."""

from lanescribe.errors import BadSize, BadTie
from lanescribe.kinds import LIMIT

MOST_AMOUNT = 99999
MOST_LANES = 6
HIGHEST_MOST = 10 ** 12
# Bounds are ties too, with this one beside the lanes: its amount is always 0.
GROUND = -1


def need_lanes(lanes):
    if not 1 <= lanes <= MOST_LANES:
        raise BadSize(f"the clocks of {lanes} lanes can't be laid together")


def need_ties(lanes, ties):
    for one, other, least in ties:
        if not 0 <= one < lanes or not 0 <= other < lanes or one == other:
            raise BadTie(f"{one} and {other} are no two lanes of {lanes}")
        if not -LIMIT <= least <= LIMIT:
            raise BadTie(f"{least} is too far apart")


def need_most(most):
    if not 0 <= most <= HIGHEST_MOST:
        raise BadSize(f"amounts can't go up to {most}")


def need_all(lanes, ties, most):
    need_lanes(lanes)
    need_ties(lanes, ties)
    need_most(most)


def bounds(lanes, most):
    """The ties that keep each lane's amount from 0 to the most."""
    lowest = [(lane, GROUND, 0) for lane in range(lanes)]
    return lowest + [(GROUND, lane, 0 - most) for lane in range(lanes)]


def raised(lanes, ties):
    """The least heights that meet the ties, which tie raised each last, and who is still raised, or None."""
    heights = {lane: 0 for lane in range(GROUND, lanes)}
    raised_by = {}
    still = None
    # Without a ring each height stands once it was raised along a row of ties that comes to nobody twice.
    for turn in range(len(heights) + 1):
        still = None
        for one, other, least in ties:
            if heights[other] + least > heights[one]:
                heights[one] = heights[other] + least
                raised_by[one] = (one, other, least)
                still = one
        if still is None:
            break
    return heights, raised_by, still


def amounts(lanes, ties, *, most=MOST_AMOUNT):
    """The list of least amounts that meet all ties, or None."""
    need_all(lanes, ties, most)
    heights, raised_by, still = raised(lanes, ties + bounds(lanes, most))
    return [heights[lane] for lane in range(lanes)] if still is None else None


def ring(lanes, ties, *, most=MOST_AMOUNT):
    """A ring of ties that no amounts meet, or None where amounts are there."""
    need_all(lanes, ties, most)
    heights, raised_by, still = raised(lanes, ties + bounds(lanes, most))
    return None if still is None else ring_behind(still, raised_by, len(heights))


def ring_behind(at, raised_by, many):
    """The ring that is come to by going back from one that was still raised at the end."""
    # The way back may begin outside the ring; of so many steps the last one surely lies in it.
    for turn in range(many):
        at = raised_by[at][1]
    found = [raised_by[at]]
    while found[-1][1] != at:
        found.append(raised_by[found[-1][1]])
    return found


def meets(lanes, ties, row, *, most=MOST_AMOUNT):
    """Whether a list of numbers are amounts, one for each lane, that meet all ties."""
    need_all(lanes, ties, most)
    if len(row) != lanes:
        return False
    within = [0 <= amount <= most for amount in row]
    return all(within) and all([row[one] - row[other] >= least for one, other, least in ties])
