"""Sewings in the order of partners, read off a table.

A number counts ways: the nestings of a stretch in their order, each as often as its weight tells. So
what is left of it, when the edges within are joined, counts the ways for the edges behind.
"""

from rimsewn.stretches import filled, finished, fitting, inner_weights, no_edges, outer_weights
from rimsewn.stretches import put_together, stretches_of, weighed, whole_kind


def write_partners(stock, low, high, weights, number, partners):
    """Writes down the partners of one nesting of (low, high); returns its entry, and what is left of number."""
    terms, table = stock.terms, stock.table
    if low == high:
        return no_edges(terms), number
    top = low + 2
    within = inner_weights(terms, table, low, top, high, weights)
    many = weighed(table[(low + 1, top - 1)], within)
    while number >= many:
        number -= many
        top += 2
        within = inner_weights(terms, table, low, top, high, weights)
        many = weighed(table[(low + 1, top - 1)], within)
    partners[low] = top - 1
    partners[top - 1] = low
    entry, number = write_partners(stock, low + 1, top - 1, within, number, partners)
    kind = finished(terms, low, top, entry)
    behind = outer_weights(terms, table, top, high, kind, weights)
    entry, number = write_partners(stock, top, high, behind, number, partners)
    return put_together(terms, top, high, kind, entry), number


def count_ahead(stock, low, high, weights, partners):
    """The entry of a nesting of (low, high), and how many ways come ahead of it."""
    terms, table = stock.terms, stock.table
    if low == high:
        return no_edges(terms), 0
    top = partners[low] + 1
    number = 0
    for lesser in range(low + 2, top, 2):
        number += weighed(table[(low + 1, lesser - 1)], inner_weights(terms, table, low, lesser, high, weights))
    within = inner_weights(terms, table, low, top, high, weights)
    entry, ahead = count_ahead(stock, low + 1, top - 1, within, partners)
    kind = finished(terms, low, top, entry)
    behind = outer_weights(terms, table, top, high, kind, weights)
    entry, later = count_ahead(stock, top, high, behind, partners)
    return put_together(terms, top, high, kind, entry), number + ahead + later


def listed_parts(stock, low, high, weights):
    """Yields partners and entry of each nesting of (low, high) whose entry has a weight, in order."""
    terms, table = stock.terms, stock.table
    if not weights:
        return
    if low == high:
        yield ((), no_edges(terms))
        return
    first = low + 1
    for top in range(low + 2, high + 1, 2):
        last = top - 1
        within = inner_weights(terms, table, low, top, high, weights)
        for inner, entry in listed_parts(stock, first, last, within):
            kind = finished(terms, low, top, entry)
            behind = outer_weights(terms, table, top, high, kind, weights)
            for outer, other in listed_parts(stock, top, high, behind):
                whole = put_together(terms, top, high, kind, other)
                yield ((last,) + inner + (low,) + outer, whole)


class Stock:
    """All sewings that keep some terms, by the table of all entries that the rule makes."""

    def __init__(self, terms):
        self.terms = terms
        self.edges = len(terms.amounts)
        self.table = filled(terms)
        self.fits = fitting(terms, self.table)

    def how_many(self):
        """How many sewings there are."""
        return sum([self.table[(0, self.edges)][entry] for entry in self.fits])

    def partners_at(self, number):
        """The partners of the sewing with this number, which is one."""
        partners = [0] * self.edges
        write_partners(self, 0, self.edges, self.fits, number, partners)
        return tuple(partners)

    def number_for(self, partners):
        """The number of the sewing with these partners, which is one."""
        return count_ahead(self, 0, self.edges, self.fits, partners)[1]

    def kinds_found(self):
        """The kinds that come, each with how many sewings have it, ascending."""
        found = {}
        for entry in self.fits:
            kind = whole_kind(self.terms, entry)
            found[kind] = found.get(kind, 0) + self.table[(0, self.edges)][entry]
        return tuple([(kind, found[kind]) for kind in sorted(list(found))])

    def told_rows(self):
        """The table, as papers tell it."""
        return tuple([(low, high, tuple(sorted(list(self.table[(low, high)]))))
                      for low, high in stretches_of(self.edges)])
