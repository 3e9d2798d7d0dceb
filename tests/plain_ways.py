"""Plain counterparts of exchanges, ways and classes, for the tests alone."""

import itertools

from plain import plain_sewings, sewn_amounts
from rimsewn.rims import Rim


def other_way(row, one, other):
    """The partners with the pairs of two edges joined in the other of the two ways, whether or not pairs cross."""
    four = sorted({one, row[one], other, row[other]})
    ways = ({four[0]: four[1], four[2]: four[3]}, {four[0]: four[3], four[1]: four[2]})
    found = list(row)
    for way in ways:
        if any(row[edge] != partner for edge, partner in way.items()):
            for edge, partner in way.items():
                found[edge], found[partner] = partner, edge
    return tuple(found)


def crossing(row):
    """The pair of edges that Crossing tells, None for a nesting."""
    found = [(a, c) for a in range(len(row)) for c in range(len(row)) if a < c < row[a] < row[c]]
    return min(found) if found else None


def plain_beside(row):
    """The partners of all nestings that come about by one exchange, in order."""
    lesser = [edge for edge, partner in enumerate(row) if edge < partner]
    rows = [other_way(row, one, other) for one, other in itertools.combinations(lesser, 2)]
    return sorted(other for other in rows if crossing(other) is None)


def sewings_beside(rim):
    """For each sewing of a rim those that one exchange makes of it."""
    rows = plain_sewings(rim.amounts, rim.full)
    return {row: [other for other in plain_beside(row) if other in rows] for row in rows}


def steps_from(beside, start):
    """For each sewing to which ways lead from one, how many exchanges they need."""
    steps = {start: 0}
    waiting = [start]
    for row in waiting:
        for other in beside[row]:
            if other not in steps:
                steps[other] = steps[row] + 1
                waiting.append(other)
    return steps


def plain_classes(rim):
    """The classes, ascending, in the order of their first sewings."""
    beside = sewings_beside(rim)
    found = []
    for row in sorted(beside):
        if not any(row in group for group in found):
            found.append(tuple(sorted(steps_from(beside, row))))
    return tuple(found)


def some_rims():
    """Rims of both kinds, of one class and of several."""
    for kind in ("square", "triangle"):
        for many in (4, 6, 8, 10, 12):
            for seed in range(8):
                yield Rim(kind, sewn_amounts(kind, many, seed))
    yield Rim("square", [1, 2, 1, 1, 3, 1, 1, 2])
