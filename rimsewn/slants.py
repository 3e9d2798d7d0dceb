"""Bodies enlarged, with a grid laid aslant."""

from math import gcd

from rimsewn.bodies import Body, need_body
from rimsewn.checks import is_within
from rimsewn.errors import BadNumber, TooMany
from rimsewn.skins import MOST_FACES, Skin
from rimsewn.straights import corners_in, over, share_of, straight, strides_of
from rimsewn.vectors import both, flip, length_of, spun


def is_whole(kind, a, b):
    """Whether no middle of a cell of this grid lies on a side of the body."""
    parts = gcd(a, b)
    if kind == "square":
        return (a // parts + b // parts) % 2 == 1
    return (a // parts - b // parts) % 3 != 0


def need_slant(body, a, b):
    """Refuses what is no grid for a body, and one by which there are too many faces."""
    need_body(body, "body")
    if not is_within(a, 1, None):
        raise BadNumber("a")
    if not is_within(b, 0, None) or not is_whole(body.kind, a, b):
        raise BadNumber("b")
    if body.faces * length_of(body.kind, (a, b)) > MOST_FACES:
        raise TooMany("faces", MOST_FACES)


def cells_near(kind, a, b):
    """Cells of the grid in which a face has the first step (a, b), ascending; none in the face is left out."""
    reach = range(-a - b, a + b + 1)
    if kind == "square":
        return [(x, y) for x in reach for y in reach]
    return [(x, y, half) for x in reach for y in reach for half in (0, 1)]


def middle_of(kind, cell):
    """The middle of a cell, in halves of steps of its grid with squares, in thirds with triangles."""
    x, y = cell[:2]
    if kind == "square":
        return 2 * x + 1, 2 * y + 1
    return 3 * x + 1 + cell[2], 3 * y + 1 + cell[2]


def strides_from(kind, cell):
    """The vectors from the middle of a cell over its sides to the middles beyond, in these parts."""
    sign = -1 if kind == "triangle" and cell[2] == 1 else 1
    return [(sign * x, sign * y) for x, y in strides_of(kind)]


def cells_of_face(kind, a, b, m):
    """For each cell whose middle lies in a face, ascending, the middle and the strides, in m-ths of the face."""
    # A step of the grid is the vector (a, b), flipped, parted by its square: that many m-ths.
    step = flip(kind, (a, b))
    corners = corners_in(kind, m)
    found = []
    for cell in cells_near(kind, a, b):
        middle = both(kind, middle_of(kind, cell), step)
        sides = [over(corners[k - 1], corners[k], middle) for k in range(len(corners))]
        if min(sides) > 0:
            found.append((middle, [both(kind, stride, step) for stride in strides_from(kind, cell)]))
    return found


def side_back(strides, arrival_step):
    """The side over which a stride leads back by which another cell was left."""
    return strides.index((-arrival_step[0], -arrival_step[1]))


def slanted(body, a, b):
    """The Body of the same body, enlarged, with a grid laid aslant."""
    need_slant(body, a, b)
    kind, square = body.kind, length_of(body.kind, (a, b))
    m = share_of(kind) * square
    cells = cells_of_face(kind, a, b, m)
    number_in = {middle: number for number, (middle, strides) in enumerate(cells)}
    seams = []
    for side in range(body.faces * square * body.turn):
        face, number = side // body.turn // square, side // body.turn % square
        middle, strides = cells[number]
        stride = strides[side % body.turn]
        arrival = straight(body, m, (face, middle[0], middle[1]), stride)
        beyond, x, y = arrival.spot
        its = number_in[(x, y)]
        mate = (beyond * square + its) * body.turn + side_back(cells[its][1], spun(kind, stride, arrival.turns))
        if side < mate:
            seams.append((side, mate))
    return Body(Skin(kind, body.faces * square, seams))
