"""Cells: where the faces of a sheet can lie in the plane."""

from rimsewn.checks import first_twice, is_listed, is_within
from rimsewn.errors import BadCells, Twice
from rimsewn.grids import need_kind, sides_of
from rimsewn.sheets import Sheet, need_sheet
from rimsewn.skins import Skin

FARTHEST = 99
# Side k of a cell lies on the cell beside it that is this step away.
SQUARE_STEPS = ((0, -1), (1, 0), (0, 1), (-1, 0))
UPRIGHT_STEPS = ((0, -1), (0, 0), (-1, 0))
TURNED_STEPS = ((0, 1), (0, 0), (1, 0))


def is_cell(kind, value):
    """Whether any value is a cell of this kind, within the bounds."""
    if not is_listed(value) or len(value) != (2 if kind == "square" else 3):
        return False
    if not all([is_within(number, -FARTHEST, FARTHEST) for number in value[:2]]):
        return False
    return all([is_within(number, 0, 1) for number in value[2:]])


def across(kind, cell, side):
    """The cell beside a side of a cell, and which of its sides that is."""
    x, y = cell[:2]
    if kind == "square":
        step = SQUARE_STEPS[side]
        return (x + step[0], y + step[1]), (side + 2) % 4
    step = TURNED_STEPS[side] if cell[2] == 1 else UPRIGHT_STEPS[side]
    return (x + step[0], y + step[1], 1 - cell[2]), side


def sheet_of(kind, cells):
    """The Sheet whose face i lies in cell i."""
    need_kind(kind)
    if not is_listed(cells) or len(cells) == 0 or not all([is_cell(kind, cell) for cell in cells]):
        raise BadCells("cells")
    told = [tuple(cell) for cell in cells]
    twice = first_twice(told)
    if twice is not None:
        raise Twice(twice)
    return Sheet(Skin(kind, len(told), seams_of(kind, told)))


def seams_of(kind, cells):
    """The pairs of sides of faces in these cells that are one."""
    turn = sides_of(kind)
    face_in = {cell: face for face, cell in enumerate(cells)}
    seams = []
    for face, cell in enumerate(cells):
        for side in range(turn):
            beyond, its = across(kind, cell, side)
            if face_in.get(beyond, -1) > face:
                seams.append((face * turn + side, face_in[beyond] * turn + its))
    return seams


def first_cell(kind):
    """The cell in which face 0 is laid."""
    return (0, 0) if kind == "square" else (0, 0, 0)


def laid(sheet):
    """The pairs of the cell and the shift of each face."""
    need_sheet(sheet)
    skin = sheet.skin
    found = {0: (first_cell(skin.kind), 0)}
    waiting = [0]
    while waiting:
        face = waiting.pop()
        cell, shift = found[face]
        for k in range(skin.turn):
            mate = skin.mate(face * skin.turn + k)
            if mate is not None and skin.face(mate) not in found:
                beyond, its = across(skin.kind, cell, (k + shift) % skin.turn)
                found[skin.face(mate)] = (beyond, (its - mate) % skin.turn)
                waiting.append(skin.face(mate))
    return tuple([found[face] for face in range(skin.faces)])


def lies_flat(sheet):
    """Whether no two faces of the sheet, laid out, lie in one cell."""
    return first_twice([cell for cell, shift in laid(sheet)]) is None
