"""How many trees of seams reach all places, and how many sets of seams hang the faces."""

from rimsewn.bodies import need_body
from rimsewn.checks import is_within
from rimsewn.errors import BadNumber
from rimsewn.trees import leads_of


def determinant(matrix):
    """The determinant of a symmetric matrix of integers that is nowhere below 0."""
    rows = [list(row) for row in matrix]
    before = 1
    for at in range(len(rows)):
        pivot = rows[at][at]
        # Of such a matrix the whole determinant is 0 if that of the rows from the first one on is.
        if pivot == 0:
            return 0
        for behind in range(at + 1, len(rows)):
            for k in range(at + 1, len(rows)):
                rows[behind][k] = (rows[behind][k] * pivot - rows[behind][at] * rows[at][k]) // before
        before = pivot
    return before


def trees_over(leads, many):
    """How many sets of these leads are trees over all of so many points."""
    rows = [[0] * many for _ in range(many)]
    # What leads from a point to itself adds nothing.
    for one, other in leads:
        rows[one][one] += 1
        rows[other][other] += 1
        rows[one][other] -= 1
        rows[other][one] -= 1
    return determinant([row[1:] for row in rows[1:]])


def spanning(body):
    """How many trees of seams reach all places."""
    need_body(body, "body")
    return trees_over(leads_of(body), len(body.places))


def hanging(body):
    """How many sets of seams hang the faces."""
    need_body(body, "body")
    turn = body.turn
    return trees_over([(one // turn, other // turn) for one, other in body.skin.seams], body.faces)


def spanning_with(body, seam):
    """How many trees that reach all places have this seam."""
    need_body(body, "body")
    leads = leads_of(body)
    if not is_within(seam, 0, len(leads) - 1):
        raise BadNumber("seam")
    return spanning(body) - trees_over(leads[:seam] + leads[seam + 1:], len(body.places))
