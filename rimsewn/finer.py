"""Finer skins, in which each face is cut in four."""

from rimsewn.sheets import Sheet, need_sheet
from rimsewn.skins import Skin, need_skin


def seams_within(face, turn):
    """The seams between the four faces into which a face is cut."""
    first = 4 * face
    if turn == 4:
        return [(4 * (first + k) + 1, 4 * (first + (k + 1) % 4) + 2) for k in range(4)]
    return [(3 * (first + k) + 1, 3 * (first + 3) + (k - 1) % 3) for k in range(3)]


def halves(skin, side):
    """The sides that are the first and the second half of a side."""
    first = 4 * skin.face(side) + side % skin.turn
    second = 4 * skin.face(side) + (side + 1) % skin.turn
    return first * skin.turn, second * skin.turn + skin.turn - 1


def finer(skin):
    """The finer Skin."""
    need_skin(skin)
    seams = []
    for face in range(skin.faces):
        seams.extend(seams_within(face, skin.turn))
    for one, other in skin.seams:
        begin, end = halves(skin, one)
        other_begin, other_end = halves(skin, other)
        seams.append((begin, other_end))
        seams.append((end, other_begin))
    return Skin(skin.kind, 4 * skin.faces, seams)


def finer_sheet(sheet):
    """The Sheet of the finer skin of a sheet."""
    need_sheet(sheet)
    return Sheet(finer(sheet.skin))
