"""Checks of rows: whether they tell a closed table of which no entry fits."""

from rimsewn.checks import is_listed, is_row, is_within
from rimsewn.stretches import fitting, made, stretches_of, without_edges


def is_entry(terms, low, high, value):
    """Whether any value is an entry of a stretch."""
    if not is_listed(value) or len(value) != 3:
        return False
    total, marks, kind = value
    if not is_within(total, 0, terms.full) or not is_row(marks) or not is_row(kind):
        return False
    if not all([mark in terms.marks and low < mark < high for mark in marks]):
        return False
    if not all([marks[at - 1] < marks[at] for at in range(1, len(marks))]):
        return False
    return len(kind) == len(terms.no_places()) and all([many >= 0 for many in kind])


def is_told(terms, stretch, value):
    """Whether any value is a triple of this stretch and its entries."""
    if not is_listed(value) or len(value) != 3 or not is_row(value[:2]) or not is_listed(value[2]):
        return False
    low, high = stretch
    return tuple(value[:2]) == stretch and all([is_entry(terms, low, high, entry) for entry in value[2]])


def shows_none(terms, rows):
    """Whether any value is the rows of a closed table of which no entry fits."""
    stretches = stretches_of(len(terms.amounts))
    if not is_listed(rows) or len(rows) != len(stretches):
        return False
    if not all([is_told(terms, stretch, row) for stretch, row in zip(stretches, rows)]):
        return False
    table = without_edges(terms)
    for low, high, entries in rows:
        table[(low, high)] = {entry: 1 for entry in entries}
    return is_closed(terms, table) and not fitting(terms, table)


def is_closed(terms, table):
    """Whether a table has all that the rule makes of its entries."""
    for low, high in stretches_of(len(terms.amounts)):
        found = made(terms, table, low, high)
        if not all([entry in table[(low, high)] for entry in found]):
            return False
    return True
