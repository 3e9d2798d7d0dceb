"""Boxes of unit squares."""

from rimsewn.bodies import Body
from rimsewn.checks import is_within
from rimsewn.errors import BadNumber, TooMany
from rimsewn.skins import MOST_FACES, Skin


def faces_of_box(a, b, c):
    """How many unit squares a box has."""
    return 2 * (a * b + b * c + c * a)


def point_on(axis, height, x, y):
    """The point so high along an axis, and x and y along the two axes behind it in turn."""
    point = [0, 0, 0]
    point[axis] = height
    point[(axis + 1) % 3] = x
    point[(axis + 2) % 3] = y
    return tuple(point)


def square_on(axis, height, x, y):
    """The corners of a unit square across an axis, counterclockwise as seen from farther along it."""
    steps = ((x, y), (x + 1, y), (x + 1, y + 1), (x, y + 1))
    return [point_on(axis, height, along, aside) for along, aside in steps]


def squares_of_box(lengths):
    """For each unit square of a box its corners, counterclockwise as seen from outside."""
    found = []
    for axis in range(3):
        for x in range(lengths[(axis + 1) % 3]):
            for y in range(lengths[(axis + 2) % 3]):
                found.append(square_on(axis, lengths[axis], x, y))
                found.append(square_on(axis, 0, x, y)[::-1])
    return found


def box(a, b, c):
    """The Body of the box with edges so long."""
    for value, part in ((a, "a"), (b, "b"), (c, "c")):
        if not is_within(value, 1, None):
            raise BadNumber(part)
    faces = faces_of_box(a, b, c)
    if faces > MOST_FACES:
        raise TooMany("faces", MOST_FACES)
    squares = squares_of_box((a, b, c))
    side_from = {(square[k], square[(k + 1) % 4]): 4 * face + k
                 for face, square in enumerate(squares) for k in range(4)}
    joined = [(side, side_from[(end, begin)]) for (begin, end), side in side_from.items()]
    return Body(Skin("square", faces, [(side, mate) for side, mate in joined if side < mate]))


def boxes_of(faces):
    """The edges, ascending, of all boxes of so many faces, ascending."""
    if not is_within(faces, 1, MOST_FACES):
        raise BadNumber("faces")
    lengths = range(1, faces + 1)
    return tuple([(a, b, c) for a in lengths for b in lengths for c in lengths
                  if a <= b <= c and faces_of_box(a, b, c) == faces])
