"""Ways: tests laid out as rows of leaves, along which an event goes until it meets True or False."""

from lanescribe.errors import BadWay
from lanescribe.sieve import is_leaf, need_test, passes_leaf

# True and False equal 1 and 0 in Python, so while rows are laid out a goal is a number alone: NO, YES, or from
# ROW on a row, counted from the last one, since what a row leads to is laid out ahead of it.
NO = 0
YES = 1
ROW = 2


def is_way(way):
    """Whether a pair is a way."""
    start, rows = way
    if len(rows) == 0:
        return isinstance(start, bool)
    if isinstance(start, bool) or start != 0:
        return False
    return all([is_row(row, at, len(rows)) for at, row in enumerate(rows)])


def is_row(row, at, many):
    leaf, yes, no = row
    return can_be_asked(leaf) and leads_on(yes, at, many) and leads_on(no, at, many)


def can_be_asked(leaf):
    return len(leaf) > 0 and leaf[0] != "all" and is_leaf(leaf)


def leads_on(goal, at, many):
    return isinstance(goal, bool) or at < goal < many


def need_way(way):
    if not is_way(way):
        raise BadWay("this pair is no way")


def made(test):
    """A way that tells what a test does, with no more rows than the test has leaves."""
    need_test(test)
    laid = []
    return way_from(lay_test(test, YES, NO, laid), laid)


def lay_test(test, yes, no, laid):
    """The goal at which a test begins to be asked that leads to yes where it is passed, else to no."""
    form = test[0]
    if form == "all":
        return yes
    if form == "not":
        return lay_test(test[1], no, yes, laid)
    if form == "and":
        return lay_test(test[1], lay_test(test[2], yes, no, laid), no, laid)
    if form == "or":
        return lay_test(test[1], yes, lay_test(test[2], yes, no, laid), laid)
    return lay_row(test, yes, no, laid)


def lay_row(leaf, yes, no, laid):
    """The goal of a row; a new row is laid only where it is needed and none is alike."""
    if yes == no:
        return yes
    row = (leaf, yes, no)
    if row not in laid:
        laid.append(row)
    return ROW + laid.index(row)


def way_from(goal, laid):
    """The way that begins at a goal, without the rows that can't be come to from there."""
    if goal < ROW:
        return goal == YES, []
    reached = [goal]
    order = []
    # A row leads only to rows laid ahead of it, so each is known to be reached or not when its turn comes.
    for number in reversed(range(ROW, goal + 1)):
        if number in reached:
            order.append(number)
            reached.extend(laid[number - ROW][1:])
    ends = {NO: False, YES: True}
    for at, number in enumerate(order):
        ends[number] = at
    rows = [laid[number - ROW] for number in order]
    return 0, [(leaf, ends[yes], ends[no]) for leaf, yes, no in rows]


def run(way, kind, values):
    """What a way tells of an event."""
    told, many = walk(way, kind, values)
    return told


def steps(way, kind, values):
    """How many rows of a way an event comes to."""
    told, many = walk(way, kind, values)
    return many


def walk(way, kind, values):
    need_way(way)
    kind.need(values)
    goal, rows = way
    many = 0
    while not isinstance(goal, bool):
        leaf, yes, no = rows[goal]
        goal = yes if passes_leaf(leaf, kind, values) else no
        many += 1
    return goal, many


def shorter(way):
    """A way that tells the same, without rows that are alike, can't be come to, or lead to one goal alone."""
    need_way(way)
    start, rows = way
    laid = []
    goals = {}
    for at in reversed(range(len(rows))):
        leaf, yes, no = rows[at]
        goals[at] = lay_row(leaf, goal_of(yes, goals), goal_of(no, goals), laid)
    return way_from(goal_of(start, goals), laid)


def goal_of(end, goals):
    if isinstance(end, bool):
        return YES if end else NO
    return goals[end]
