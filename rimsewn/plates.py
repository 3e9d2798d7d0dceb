"""Plates: bodies that are laid on themselves, mirrored, so that each tip is kept."""

from rimsewn.bodies import Body, need_body
from rimsewn.errors import TooMany, TooMuch
from rimsewn.failings import failing_of
from rimsewn.overlays import Overlay, goals_of, laying_by
from rimsewn.papers import Denial, Paper
from rimsewn.sheets import need_sheet
from rimsewn.skins import MOST_FACES, Skin
from rimsewn.starts import own_starts, tip_walk


class Plate(Paper):
    """A mirrored Overlay of a body onto itself that keeps each tip."""

    def __init__(self, overlay):
        Paper.__init__(self, "plate", overlay)
        self.overlay = self.parts[0]


class NoPlate(Denial):
    """A walk of the body, and a failing of each of its starts from the place where it begins."""

    def __init__(self, corner, vector, failings):
        Denial.__init__(self, "noplate", corner, vector, failings)
        self.corner = self.parts[0]
        self.vector = self.parts[1]
        self.failings = self.parts[2]


def doubled(sheet):
    """The Body of a sheet that is sewn to its mirrored one."""
    need_sheet(sheet)
    skin = sheet.skin
    for corner, amount in enumerate(sheet.amounts):
        if 2 * amount > skin.full:
            raise TooMuch(corner)
    if 2 * sheet.faces > MOST_FACES:
        raise TooMany("faces", MOST_FACES)
    behind = [skin.sides + skin.mirror_of(side) for side in range(skin.sides)]
    seams = list(skin.seams)
    seams.extend([(behind[one], behind[other]) for one, other in skin.seams])
    seams.extend([(side, behind[side]) for side in skin.free])
    return Body(Skin(skin.kind, 2 * sheet.faces, seams))


def tip_moved(body, overlay):
    """The least tip that a mirrored overlay of a body onto itself does not keep, None if it keeps each."""
    goals = goals_of(laying_by(body, body, overlay, True))
    for tip in body.tips:
        if goals[tip] != tip:
            return tip
    return None


def plate(body):
    """A Plate of a body; a NoPlate if there is none."""
    need_body(body, "body")
    walk = tip_walk(body)
    corner, vector = walk
    failings = []
    for start in own_starts(body, walk):
        failing = failing_of(body, body, True, walk, start)
        if failing is None:
            overlay = Overlay(corner, vector, start[0], start[1])
            tip = tip_moved(body, overlay)
            if tip is None:
                return Plate(overlay)
            failing = ("kept", tip)
        failings.append(failing)
    return NoPlate(corner, vector, failings)
