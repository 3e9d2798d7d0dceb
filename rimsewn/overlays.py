"""Overlays, by which one body is laid on another one, and what shows that there is none."""

from rimsewn.bodies import need_bodies, need_one_kind
from rimsewn.errors import BadPaper
from rimsewn.failings import failing_of, to_corner
from rimsewn.layings import Laying
from rimsewn.papers import Denial, Paper, exactly
from rimsewn.starts import is_tip_walk, is_way, starts_of


class Overlay(Paper):
    """A walk of the one, and a start of it without failings."""

    def __init__(self, corner, vector, other, its):
        Paper.__init__(self, "overlay", corner, vector, other, its)
        self.corner = self.parts[0]
        self.vector = self.parts[1]
        self.other = self.parts[2]
        self.its = self.parts[3]


class Apart(Denial):
    """A walk of the one, and a failing of each of its starts."""

    def __init__(self, corner, vector, failings):
        Denial.__init__(self, "apart", corner, vector, failings)
        self.corner = self.parts[0]
        self.vector = self.parts[1]
        self.failings = self.parts[2]


def is_overlay(value):
    """Whether any value is an Overlay."""
    return isinstance(value, Overlay) and value.__class__.__name__ == "Overlay"


def tells_start(one, other, overlay):
    """Whether an Overlay tells a walk from tip to tip, and one of its starts."""
    if not is_tip_walk(one, overlay.corner, overlay.vector) or not is_way(other, overlay.other, overlay.its):
        return False
    walk, start = (overlay.corner, overlay.vector), (overlay.other, overlay.its)
    return any([exactly(start, told) for told in starts_of(one, other, walk)])


def is_right(one, other, overlay, mirrored):
    """Whether an Overlay is right: its start has no failing."""
    if one.faces != other.faces or not tells_start(one, other, overlay):
        return False
    walk, start = (overlay.corner, overlay.vector), (overlay.other, overlay.its)
    return failing_of(one, other, mirrored, walk, start) is None


def laying_by(one, other, overlay, mirrored):
    """The Laying that a right Overlay tells."""
    return Laying(one, other, mirrored, (overlay.corner, overlay.vector), (overlay.other, overlay.its))


def need_laying(one, other, overlay, mirrored):
    """The Laying of an Overlay; refuses what is no right one."""
    need_bodies(one, other)
    if not is_overlay(overlay):
        raise BadPaper("overlay")
    need_one_kind(one, other)
    if not is_right(one, other, overlay, mirrored):
        raise BadPaper("overlay")
    return laying_by(one, other, overlay, mirrored)


def laid_on(one, other, overlay, mirrored=False):
    """For each face of the one the spot of its middle on the other, and the image of its first step."""
    laying = need_laying(one, other, overlay, mirrored)
    return tuple([(spot[0], spot[1], spot[2], step) for spot, step in laying.laid])


def goals_of(laying):
    """For each place of the one the place of the other to which it comes, None for a spot that is none."""
    return tuple([to_corner(laying, place[0]).place for place in laying.one.places])


def places_on(one, other, overlay, mirrored=False):
    """For each place of the one the place of the other to which it comes, None for a spot that is none."""
    return goals_of(need_laying(one, other, overlay, mirrored))
