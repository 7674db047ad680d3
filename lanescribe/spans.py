"""Spans: stretches of a row of events from one of an opening kind to one of its closing fellow."""

from lanescribe.errors import BadPairs
from lanescribe.kinds import is_name


def need_pairs(pairs):
    names = [name for pair in pairs for name in pair]
    for at, name in enumerate(names):
        if not is_name(name) or name in names[:at]:
            raise BadPairs(f"{name!r} is no name, or stands twice")


def walked(told, pairs):
    """All spans, and the places of all strays, both in the order in which they came."""
    need_pairs(pairs)
    openings = [opening for opening, closing in pairs]
    fellows = {closing: opening for opening, closing in pairs}
    found = []
    lone = []
    # The places in found of those that are still open, the innermost last.
    around = []
    for thing in told:
        if thing[0] == "lost":
            around.clear()
        elif thing[3] in openings:
            around.append(len(found))
            found.append((thing[3], thing[1], None, len(around) - 1))
        elif thing[3] in fellows:
            if len(around) > 0 and found[around[-1]][0] == fellows[thing[3]]:
                close(found, around.pop(), thing[1])
            else:
                lone.append(thing[1])
    return found, lone


def close(found, at, last):
    found[at] = found[at][:2] + (last,) + found[at][3:]


def spans(told, pairs):
    """The list of spans (opening, first, last, depth), rising by first."""
    found, lone = walked(told, pairs)
    return found


def strays(told, pairs):
    """The places of closing events that close nothing, rising."""
    found, lone = walked(told, pairs)
    return lone


def deepest(told, pairs):
    """The greatest depth of all spans, or None without spans."""
    return max([depth for opening, first, last, depth in spans(told, pairs)], default=None)
