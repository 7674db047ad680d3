"""What several test files need: small rows of tests, and tests of a given size or depth."""

from itertools import product

ALL = ("all",)


def nots(depth):
    """A test that is just so deep."""
    test = ALL
    for level in range(depth - 1):
        test = ("not", test)
    return test


def bushy(parts):
    """A test of just so many parts, as flat as may be."""
    row = [ALL] * ((parts + 1) // 2)
    while len(row) > 1:
        row = [("and",) + tuple(row[at:at + 2]) if at + 1 < len(row) else row[at] for at in range(0, len(row), 2)]
    return row[0] if parts % 2 else ("not", row[0])


def tests_upto(leaves, depth):
    """All tests over these leaves that are at most so deep."""
    if depth == 1:
        return list(leaves)
    inner = tests_upto(leaves, depth - 1)
    pairs = list(product(inner, inner))
    return (
        list(leaves)
        + [("not", test) for test in inner]
        + [("and", one, other) for one, other in pairs]
        + [("or", one, other) for one, other in pairs]
    )


def all_values(kind):
    """All values of a kind, rising."""
    return product(*[range(low, high + 1) for name, low, high in kind.fields])
