"""Whether a value shows that no cut of a body has fewer seams."""

from rimsewn.checks import are_numbers, is_listed, is_row
from rimsewn.cuts import Cut
from rimsewn.errors import BadCut
from rimsewn.fewest import Fewest, halves_of, need_few_tips
from rimsewn.trees import leads_of


def is_cut(body, seams):
    """Whether any value is the ascending numbers of the seams of a cut."""
    if not are_numbers(seams, len(body.skin.seams)):
        return False
    try:
        Cut(body, seams)
    except BadCut:
        return False
    return True


def is_table(body, rows):
    """Whether any value is a table of lengths."""
    if not is_listed(rows) or len(rows) != 1 << len(body.tips):
        return False
    if not all([is_row(row) and len(row) == len(body.places) for row in rows]):
        return False
    return not any(rows[0])


def is_level(row, leads):
    """Whether no length is more than 1 greater than at a place beside it."""
    return all([-1 <= row[one] - row[other] <= 1 for one, other in leads])


def is_fair(body, rows):
    """Whether a table of lengths is fair."""
    leads = leads_of(body)
    for number, tip in enumerate(body.tips):
        if rows[1 << number][tip] > 0:
            return False
    for chosen in range(1, len(rows)):
        row = rows[chosen]
        if not is_level(row, leads):
            return False
        for one, other in halves_of(chosen):
            if any([row[place] > rows[one][place] + rows[other][place] for place in range(len(row))]):
                return False
    return True


def shows_fewest(body, value):
    """Whether any value is a right Fewest of a body."""
    need_few_tips(body)
    if not isinstance(value, Fewest) or value.__class__.__name__ != "Fewest":
        return False
    if not is_cut(body, value.seams) or not is_table(body, value.rows) or not is_fair(body, value.rows):
        return False
    return any([value.rows[-1][tip] == len(value.seams) for tip in body.tips])
