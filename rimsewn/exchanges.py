"""Exchanges: two pairs of a nesting joined in the other way.

Each pair of edges parts two places: that in which its lesser edge begins, and that in which the other one
does. No pair that stays crosses the new ones exactly if both pairs lie along one place.
"""

from rimsewn.errors import BadNesting, Misfit, Twice
from rimsewn.nestings import Nesting, need_nesting
from rimsewn.sheets import need_edge
from rimsewn.sums import is_sewing, kind_of, need_fit


def swapped(partners, one, other):
    """The partners that come about if the pairs of two edges are exchanged."""
    first, second, third, fourth = sorted([one, partners[one], other, partners[other]])
    pairs = ((first, fourth), (second, third)) if partners[first] == second else ((first, second), (third, fourth))
    found = list(partners)
    for edge, partner in pairs:
        found[edge] = partner
        found[partner] = edge
    return tuple(found)


def exchanged(nesting, one, other):
    """The Nesting that comes about if the pairs of two edges are exchanged."""
    need_nesting(nesting)
    need_edge(one, len(nesting))
    need_edge(other, len(nesting))
    if other in (one, nesting.partners[one]):
        raise Twice(other)
    return Nesting(swapped(nesting.partners, one, other))


def rows_beside(nesting):
    """The partners of all nestings that come about by one exchange, ascending."""
    found = []
    for place in nesting.places:
        # The edges that begin in a place are one of each pair that lies along it.
        for at, one in enumerate(place):
            found.extend([swapped(nesting.partners, one, other) for other in place[at + 1:]])
    return sorted(found)


def exchanges(nesting):
    """All Nestings that come about by one exchange, in the order of partners."""
    need_nesting(nesting)
    return tuple([Nesting(row) for row in rows_beside(nesting)])


def need_alike(one, other):
    """Refuses what are no two nestings of as many edges."""
    for value, part in ((one, "one"), (other, "other")):
        if not isinstance(value, Nesting):
            raise BadNesting(part)
    if len(one) != len(other):
        raise Misfit("edges")


def ring_from(one, other, start):
    """The edges on the way from an edge to its partner in the one, to its partner in the other, and so on."""
    ring = []
    edge = start
    while edge != start or not ring:
        partner = one.partners[edge]
        ring.extend([edge, partner])
        edge = other.partners[partner]
    return tuple(sorted(ring))


def rings(one, other):
    """The rings of two nestings, in the order of their least edges."""
    need_alike(one, other)
    found = []
    seen = set()
    for start in range(len(one)):
        if start not in seen:
            ring = ring_from(one, other, start)
            found.append(ring)
            for edge in ring:
                seen.add(edge)
    return tuple(found)


def least_exchanges(one, other):
    """The fewest exchanges from the one to the other, through any nestings."""
    many = len(rings(one, other))
    return len(one) // 2 - many


def sewn_exchanges(rim, nesting):
    """The sewings that come about by one exchange, in the order of partners."""
    need_fit(rim, nesting)
    return tuple([other for other in exchanges(nesting) if is_sewing(rim, other)])


def like_exchanges(rim, nesting):
    """Those of them that have the same kind as this sewing."""
    if not is_sewing(rim, nesting):
        raise BadNesting("sewing")
    kind = kind_of(rim, nesting)
    return tuple([other for other in sewn_exchanges(rim, nesting) if kind_of(rim, other) == kind])
