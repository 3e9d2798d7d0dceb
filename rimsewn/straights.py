"""Straight ways over a body, from a spot within a face.

Lengths are told in m-ths of a step. A spot (face, x, y) is x m-ths of the first step of a face and y
of its second one from its corner 0. Where a way goes on in another face, that face is laid into the
plane of the present one: a turn by so many quarters, or sixths, leads from the one's steps to the other's.
"""

from rimsewn.vectors import spun
from rimsewn.walks import across_place

# The corners of a face, told by its steps from its corner 0.
SQUARE_CORNERS = ((0, 0), (1, 0), (1, 1), (0, 1))
TRIANGLE_CORNERS = ((0, 0), (1, 0), (0, 1))
# From the middle of a face: to its corners, and over its sides to the middles of the faces beyond;
# told in halves of steps with squares, in thirds with triangles.
SQUARE_RAYS = ((-1, -1), (1, -1), (1, 1), (-1, 1))
TRIANGLE_RAYS = ((-1, -1), (2, -1), (-1, 2))
SQUARE_STRIDES = ((0, -2), (2, 0), (0, 2), (-2, 0))
TRIANGLE_STRIDES = ((1, -2), (1, 1), (-2, 1))


def share_of(kind):
    """In how many parts a step is told where middles are."""
    return 2 if kind == "square" else 3


def rays_of(kind):
    """The vectors from the middle of a face to its corners, in these parts."""
    return SQUARE_RAYS if kind == "square" else TRIANGLE_RAYS


def strides_of(kind):
    """The vectors from the middle of a face over its sides to the middles beyond, in these parts."""
    return SQUARE_STRIDES if kind == "square" else TRIANGLE_STRIDES


def corners_in(kind, m):
    """The corners of a face, in m-ths."""
    told = SQUARE_CORNERS if kind == "square" else TRIANGLE_CORNERS
    return tuple([(x * m, y * m) for x, y in told])


def turns_of(body, many):
    """By how many quarters, or sixths, the side lies that stands so many places behind in its face."""
    return many * (body.full // body.turn)


def over(one, other, point):
    """Above 0 to the left of the line from one to other, 0 on it, below 0 to the right."""
    return (other[0] - one[0]) * (point[1] - one[1]) - (other[1] - one[1]) * (point[0] - one[0])


def leaving(corners, begin, end, entered):
    """The sides of a face over which a line goes out first: none, one, or two that meet in a corner."""
    found = []
    best, whole = 1, 1
    for k in range(len(corners)):
        one, other = corners[k], corners[(k + 1) % len(corners)]
        beyond = over(one, other, end)
        if k in entered or beyond >= 0:
            continue
        # The line meets this side when it has gone ahead of so many parts.
        ahead = over(one, other, begin)
        parts = ahead - beyond
        if found and ahead * whole == best * parts:
            found.append(k)
        elif not found or ahead * whole < best * parts:
            found = [k]
            best, whole = ahead, parts
    return found


def corner_between(sides, turn):
    """The corner of a face in which two of its sides meet."""
    return 0 if sides[0] == 0 and sides[1] == turn - 1 else sides[1]


class Arrival:
    """Where a straight way comes: at a tip ahead of its end, or at a spot, perhaps a place."""

    def __init__(self, early, place, spot, turns):
        self.early = early
        self.place = place
        self.spot = spot
        self.turns = turns

    def at_tip(self, body):
        """Whether it comes to a tip, at its end or earlier."""
        return self.place is not None and body.gathers[self.place] < body.full


class Traveller:
    """A straight line, told by the steps of the face in which it has come."""

    def __init__(self, body, m, spot, step):
        face, x, y = spot
        self.body = body
        self.points = corners_in(body.kind, m)
        self.here = face
        self.begin = (x, y)
        self.end = (x + step[0], y + step[1])
        self.turns = 0
        self.entered = ()

    def lay_over(self, pivot, face, goal, turns):
        """Tells the line by the steps of a next face, to whose corner goal the present corner pivot comes."""
        kind = self.body.kind
        own, its = self.points[pivot], self.points[goal]
        placed = []
        for point in (self.begin, self.end):
            x, y = spun(kind, (point[0] - own[0], point[1] - own[1]), turns)
            placed.append((x + its[0], y + its[1]))
        self.begin, self.end = placed
        self.here = face
        self.turns = (self.turns + turns) % self.body.full

    def cross(self, k):
        """Goes on over side k of the face."""
        body = self.body
        mate = body.skin.mates[self.here * body.turn + k]
        its = mate % body.turn
        turns = body.full // 2 + turns_of(body, its - k)
        self.lay_over(k, mate // body.turn, (its + 1) % body.turn, turns)
        self.entered = (its,)

    def pass_place(self, k):
        """Goes straight on over the flat place at corner k of the face."""
        body = self.body
        corner = across_place(body.skin, self.here * body.turn + k)
        its = corner % body.turn
        turns = body.full // 2 + turns_of(body, its - k)
        self.lay_over(k, corner // body.turn, its, turns)
        self.entered = (its, (its - 1) % body.turn)

    def place_at_end(self):
        """The place at the end of the line, in the present face; None if there is none."""
        if self.end not in self.points:
            return None
        return self.body.place_at[self.here * self.body.turn + self.points.index(self.end)]


def straight(body, m, spot, step):
    """The Arrival of the way straight on from a spot within a face, by so many m-ths of its steps."""
    line = Traveller(body, m, spot, step)
    sides = leaving(line.points, line.begin, line.end, line.entered)
    while sides:
        if len(sides) == 1:
            line.cross(sides[0])
        else:
            k = corner_between(sides, body.turn)
            place = body.place_at[line.here * body.turn + k]
            if body.gathers[place] < body.full:
                return Arrival(True, place, None, line.turns)
            line.pass_place(k)
        sides = leaving(line.points, line.begin, line.end, line.entered)
    return Arrival(False, line.place_at_end(), (line.here, line.end[0], line.end[1]), line.turns)
