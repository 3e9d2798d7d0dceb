"""Belts: ways over a body of squares, over each face to the side across."""

from rimsewn.bodies import need_body
from rimsewn.errors import Misfit


def across_face(skin, side):
    """The side across from a side of a square."""
    return skin.nexts[skin.nexts[side]]


def belt_from(skin, first):
    """The sides by which the belt leaves faces that leaves one by this side, beginning with it."""
    belt = [first]
    side = across_face(skin, skin.mates[first])
    while side != first:
        belt.append(side)
        side = across_face(skin, skin.mates[side])
    return tuple(belt)


def belts(body):
    """All belts, ascending."""
    need_body(body, "body")
    if body.kind != "square":
        raise Misfit("kind")
    found = []
    seen = set()
    # Sides are tried from the least one on, so each belt is first met as it is to be told.
    for side in range(body.skin.sides):
        if side not in seen:
            belt = belt_from(body.skin, side)
            found.append(belt)
            for left in belt:
                seen.add(left)
                seen.add(across_face(body.skin, left))
    return tuple(found)
