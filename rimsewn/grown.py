"""Sheets widened at an edge, and the sewings that last from nestings of the sheet."""

from rimsewn.errors import Misfit
from rimsewn.nestings import Nesting, need_nesting
from rimsewn.rims import Rim
from rimsewn.sheets import need_edge, need_sheet
from rimsewn.sums import is_sewing


def widened(sheet, edge):
    """The Sheet with a face, of triangles two faces, put on at an edge."""
    need_sheet(sheet)
    wider = sheet.put_on(edge)
    if sheet.kind == "square":
        return wider
    return wider.put_on(wider.rim.index(sheet.skin.sides + 1))


def new_sides(sheet):
    """The sides of the three new edges of the widened sheet, in turn."""
    first = sheet.skin.sides
    if sheet.kind == "square":
        return first + 1, first + 2, first + 3
    return first + 4, first + 5, first + 2


def partners_by(pairs):
    """The partners that these pairs of all edges tell."""
    partner_of = {}
    for one, other in pairs:
        partner_of[one] = other
        partner_of[other] = one
    return [partner_of[edge] for edge in range(len(partner_of))]


def lasting_rows(sheet, nesting, edge, rim):
    """The partners of both nestings of the widened sheet, with this rim of sides, that last from a nesting."""
    edge_at = {side: number for number, side in enumerate(rim)}
    kept = [(edge_at[sheet.rim[one]], edge_at[sheet.rim[other]])
            for one, other in nesting.pairs if edge not in (one, other)]
    first, second, third = [edge_at[side] for side in new_sides(sheet)]
    partner = edge_at[sheet.rim[nesting.partners[edge]]]
    ahead = kept + [(first, second), (third, partner)]
    behind = kept + [(first, partner), (second, third)]
    return sorted([partners_by(ahead), partners_by(behind)])


def lasting(sheet, nesting, edge):
    """The sewings of the widened sheet that last from a nesting, in the order of partners."""
    need_sheet(sheet)
    need_nesting(nesting)
    need_edge(edge, len(sheet))
    if len(sheet) != len(nesting):
        raise Misfit("edges")
    wider = widened(sheet, edge)
    rim = Rim.of(wider)
    found = [Nesting(row) for row in lasting_rows(sheet, nesting, edge, wider.rim)]
    return tuple([other for other in found if is_sewing(rim, other)])
