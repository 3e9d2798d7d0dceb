"""Whether bodies are alike in truth."""

from rimsewn.bodies import need_bodies, need_one_kind
from rimsewn.failings import failing_of
from rimsewn.overlays import Apart, Overlay
from rimsewn.starts import starts_of, tip_walk

UNLIKE_FACES = ("faces", 0)


def in_truth(one, other, mirrored=False):
    """An Overlay of one onto other, mirrored if that is asked; an Apart if there is none."""
    need_bodies(one, other)
    need_one_kind(one, other)
    walk = tip_walk(one)
    corner, vector = walk
    if one.faces != other.faces:
        return Apart(corner, vector, [UNLIKE_FACES])
    failings = []
    for start in starts_of(one, other, walk):
        failing = failing_of(one, other, mirrored, walk, start)
        if failing is None:
            return Overlay(corner, vector, start[0], start[1])
        failings.append(failing)
    return Apart(corner, vector, failings)
