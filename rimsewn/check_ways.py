"""Whether a value shows a way from sewing to sewing, or that there is none."""

from rimsewn.check_sewn import nesting_or_none, tells_sewing
from rimsewn.checks import is_listed
from rimsewn.exchanges import sewn_exchanges
from rimsewn.ways import Parted, Way, need_ends

CHANGED_BY_ONE = 4


def are_sewings(rim, rows):
    """Whether any value is a row of partners of sewings of the rim, one or more."""
    return is_listed(rows) and len(rows) > 0 and all([tells_sewing(rim, row) for row in rows])


def is_step(row, behind):
    """Whether one exchange leads from a nesting to another one."""
    # Four edges that two nestings join otherwise, and all others alike, are joined in the only two ways.
    return len([edge for edge in range(len(row)) if row[edge] != behind[edge]]) == CHANGED_BY_ONE


def is_way(rim, one, other, rows):
    """Whether any value is the rows of a way from the one to the other."""
    if not are_sewings(rim, rows) or rows[0] != one.partners or rows[-1] != other.partners:
        return False
    return all([is_step(rows[at - 1], rows[at]) for at in range(1, len(rows))])


def is_parted(rim, one, other, rows):
    """Whether any value is the rows of sewings that no exchange leaves, with the one, without the other."""
    if not are_sewings(rim, rows) or not all([rows[at - 1] < rows[at] for at in range(1, len(rows))]):
        return False
    if one.partners not in rows or other.partners in rows:
        return False
    told = {row: True for row in rows}
    for row in rows:
        if not all([behind.partners in told for behind in sewn_exchanges(rim, nesting_or_none(row))]):
            return False
    return True


def shows_way(rim, one, other, value):
    """Whether any value is a right Way or a right Parted of these sewings."""
    need_ends(rim, one, other)
    if isinstance(value, Way) and value.__class__.__name__ == "Way":
        return is_way(rim, one, other, value.rows)
    if isinstance(value, Parted) and value.__class__.__name__ == "Parted":
        return is_parted(rim, one, other, value.rows)
    return False
