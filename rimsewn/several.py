"""Sheets joined at an edge, and the bodies that several sheets make together."""

from rimsewn.checks import is_listed, is_within
from rimsewn.errors import BadSheet, Misfit, TooMany
from rimsewn.made import code_of_sheet, codes_made
from rimsewn.sheets import Sheet, need_edge
from rimsewn.skins import Skin

FEWEST_SHEETS = 2
MOST_SHEETS = 3
MOST_SQUARES = 4
MOST_TRIANGLES = 6


def need_edge_of(sheet, edge, part):
    """Refuses what is no sheet, with the name of the parameter, and what is none of its edges."""
    if not isinstance(sheet, Sheet):
        raise BadSheet(part)
    need_edge(edge, len(sheet))


def side_by_side(one, edge, other, other_edge):
    """The Sheet of two sheets of one kind, joined at an edge of each."""
    moved = [(first + one.skin.sides, second + one.skin.sides) for first, second in other.skin.seams]
    seam = (one.rim[edge], other.rim[other_edge] + one.skin.sides)
    return Sheet(Skin(one.kind, one.faces + other.faces, list(one.skin.seams) + moved + [seam]))


def joined(one, edge, other, other_edge):
    """The Sheet of two sheets, joined at an edge of each."""
    need_edge_of(one, edge, "one")
    need_edge_of(other, other_edge, "other")
    if one.kind != other.kind:
        raise Misfit("kind")
    return side_by_side(one, edge, other, other_edge)


def all_joined(ones, others):
    """Of each two sheets joined in any way one for each code."""
    found = {}
    for one in ones:
        for other in others:
            for edge in range(len(one)):
                for other_edge in range(len(other)):
                    sheet = side_by_side(one, edge, other, other_edge)
                    found[code_of_sheet(sheet)] = sheet
    return list(found.values())


def joined_in_all_ways(sheets):
    """Sheets that come of joining two or three sheets, one for each code."""
    if len(sheets) == FEWEST_SHEETS:
        return all_joined(sheets[:1], sheets[1:])
    first, second, third = sheets
    found = all_joined(all_joined([first], [second]), [third])
    return found + all_joined(all_joined([first], [third]), [second])


def need_several(sheets):
    """Refuses what is no list of two or three sheets of one kind, or with too many faces."""
    if not is_listed(sheets) or not all([isinstance(sheet, Sheet) for sheet in sheets]):
        raise BadSheet("sheets")
    if not is_within(len(sheets), FEWEST_SHEETS, MOST_SHEETS):
        raise BadSheet("sheets")
    kind = sheets[0].kind
    if not all([sheet.kind == kind for sheet in sheets]):
        raise Misfit("kind")
    most = MOST_SQUARES if kind == "square" else MOST_TRIANGLES
    if sum([sheet.faces for sheet in sheets]) > most:
        raise TooMany("faces", most)


def codes_of_all(sheets):
    """The codes of all bodies that two or three sheets make, ascending."""
    need_several(sheets)
    found = set()
    for sheet in joined_in_all_ways(sheets):
        for code in codes_made(sheet):
            found.add(code)
    return tuple(sorted(found))
