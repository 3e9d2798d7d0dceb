"""Bodies opened along cuts, and the cuts along which sheets were sewn."""

from rimsewn.bodies import sewn
from rimsewn.cuts import Cut, need_cut
from rimsewn.nestings import Nesting
from rimsewn.sheets import Sheet
from rimsewn.skins import Skin


def opened(cut):
    """The Sheet of the same faces that keeps the seams that are not in the cut."""
    need_cut(cut)
    skin = cut.body.skin
    kept = [seam for number, seam in enumerate(skin.seams) if number not in cut.seams]
    return Sheet(Skin(skin.kind, skin.faces, kept))


def closing(cut):
    """The Nesting of the edges of the opened sheet that joins those that were one seam."""
    rim = opened(cut).rim
    edge_at = {side: edge for edge, side in enumerate(rim)}
    return Nesting([edge_at[cut.body.skin.mates[side]] for side in rim])


def cut_of(sheet, nesting):
    """The Cut of the body to which a sheet is sewn, along the joined edges."""
    body = sewn(sheet, nesting)
    edges = [(sheet.rim[one], sheet.rim[other]) for one, other in nesting.pairs]
    return Cut(body, [body.skin.seams.index((min(pair), max(pair))) for pair in edges])
