"""Plain counterparts of codes of sheets, of what sheets make, and of renamings of sheets, for the tests alone."""

from plain import partner_rows
from plain_bodies import matchings, plain_code, turn_of
from rimsewn.bodies import Body, sewn
from rimsewn.nestings import Nesting
from rimsewn.rims import Rim
from rimsewn.skins import Skin
from rimsewn.sums import is_sewing


def plain_sheet_row(skin, first):
    """The row of mates of the numbering from a side, by the words of the document; -1 at a free side."""
    turn = skin.turn
    order = [first // turn * turn + (first + k) % turn for k in range(turn)]
    at = 0
    while at < len(order):
        mate = skin.mate(order[at])
        if mate is not None and mate not in order:
            order += [mate // turn * turn + (mate + k) % turn for k in range(turn)]
        at += 1
    return tuple(-1 if skin.mate(side) is None else order.index(skin.mate(side)) for side in order)


def plain_sheet_code(sheet):
    return min(plain_sheet_row(sheet.skin, side) for side in range(sheet.skin.sides))


def plain_sewings_of(sheet):
    """All sewings of a sheet, by going through all nestings."""
    if len(sheet) % 2:
        return []
    return [row for row in partner_rows(len(sheet)) if is_sewing(Rim.of(sheet), Nesting(row))]


def plain_made(sheet):
    """The code of each body that a sheet makes, with the sewings that make it."""
    found = {}
    for row in plain_sewings_of(sheet):
        found.setdefault(plain_code(sewn(sheet, Nesting(row))), []).append(row)
    return found


def side_by_side(sheets):
    """The kind, the number of faces, the seams and the free sides of skins put side by side."""
    turn = turn_of(sheets[0].kind)
    seams, free, faces = [], [], 0
    for sheet in sheets:
        seams += [(one + faces * turn, other + faces * turn) for one, other in sheet.skin.seams]
        free += [side + faces * turn for side in sheet.skin.free]
        faces += sheet.faces
    return sheets[0].kind, faces, seams, free


def plain_codes_of_all(sheets):
    """The codes of all bodies that come of joining all edges in pairs, in any way."""
    kind, faces, seams, free = side_by_side(sheets)
    found = set()
    if len(free) % 2:
        return ()
    for pairs in matchings(free):
        try:
            found.add(plain_code(Body(Skin(kind, faces, seams + pairs))))
        except ValueError:
            pass
    return tuple(sorted(found))


def renames_skins(one, other, sides):
    """Whether a row of integers is a renaming of one sheet onto another: free sides to free ones, mates to mates."""
    turn = one.turn
    if (one.kind, one.faces) != (other.kind, other.faces) or sorted(sides) != list(range(other.sides)):
        return False
    for side in range(one.sides):
        behind = side // turn * turn + (side + 1) % turn
        if sides[behind] != sides[side] // turn * turn + (sides[side] + 1) % turn:
            return False
        mate, goal = one.mate(side), other.mate(sides[side])
        if (mate is None) != (goal is None) or mate is not None and sides[mate] != goal:
            return False
    return True
