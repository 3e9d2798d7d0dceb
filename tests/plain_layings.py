"""A plain counterpart of layings: faces of one body laid out upon another one, as complex numbers."""

from plain_walks import TINY, Placed, crossing, plain_walk, second_step


def middle(body, placed):
    return sum(placed.at.values()) / body.turn


def first_side(body, placed):
    """The first side of the face that is laid out."""
    return min(placed.at)


def frame(body, face):
    """A face laid out with its corner 0 at 0 and its first step along 1."""
    return Placed(body, face * body.turn, 0, 1)


def local(body, placed, point, step):
    """The face, a point and a direction, told in the frame of that face."""
    side = first_side(body, placed)
    own = placed.end(side) - placed.at[side]
    return side // body.turn, (point - placed.at[side]) / own, step / own


def within(placed, point):
    """Whether a point lies in a face that is laid out, or on its sides."""
    for side in placed.at:
        line = placed.end(side) - placed.at[side]
        if (line.conjugate() * (point - placed.at[side])).imag < -TINY:
            return False
    return True


def in_sector(placed, corner, direction):
    """Whether a direction leads from a corner into its face."""
    body = placed.body
    one = placed.end(corner) - placed.at[corner]
    other = placed.at[body.skin.back(corner)] - placed.at[corner]
    return (one.conjugate() * direction).imag > TINY and (direction.conjugate() * other).imag > TINY


def plain_straight(body, placed, begin, goal):
    """("tip", place) ahead of the goal, or ("at", placed, place at the goal or None)."""
    entered = ()
    while not within(placed, goal):
        hit = None
        for corner, point in placed.at.items():
            along = (goal - begin).conjugate() * (point - begin)
            if abs(along.imag) < TINY and along.real > TINY and corner not in entered:
                if abs(point - begin) < abs(goal - begin) - TINY:
                    hit = corner
        if hit is not None:
            place = body.place_of(hit)
            if body.gathers[place] < body.full:
                return "tip", place
            corner = hit
            for _ in range(body.full):
                side = body.skin.back(corner)
                placed, corner = placed.beyond(side), body.skin.mate(side)
                if in_sector(placed, corner, goal - begin):
                    break
            begin, entered = placed.at[corner], (corner,)
            continue
        sides = [side for side in placed.at if side not in entered and crossing(begin, goal, placed.at[side], placed.end(side)) is not None
                 and (((placed.end(side) - placed.at[side]).conjugate() * (goal - begin)).imag < 0)]
        assert len(sides) == 1, sides
        entered = (body.skin.mate(sides[0]),)
        placed = placed.beyond(sides[0])
    corner = placed.corner_at(goal)
    return "at", placed, None if corner is None else body.place_of(corner)


class PlainLaying:
    """A start of a walk, by floating numbers: for each face (face of the other, its middle there, its first step)."""

    def __init__(self, one, other, flips, walk, start):
        self.one, self.other, self.flips = one, other, flips
        second = second_step(one)
        (corner, (a, b)), (its, (c, d)) = walk, start
        vector, goal = a + b * second, c + d * second
        # Told by the steps at the corners; mirrored, what turns one way turns the other way.
        self.image = goal / (vector.conjugate() if flips else vector)
        own = frame(one, corner // one.turn)
        first = own.end(corner) - own.at[corner]
        placed = Placed(other, its, 0, 1)
        self.laid = {}
        ray = (middle(one, own) - own.at[corner]) / first
        point = self.image * (ray.conjugate() if flips else ray)
        # The middle lies beside the start: in the sector of its corner, or in one beside that.
        side = other.skin.back(its)
        left, right = placed.beyond(side), placed.beyond(its)
        sectors = [(placed, its), (left, other.skin.mate(side)), (right, other.skin.next(other.skin.mate(its)))]
        placed = [face for face, corner in sectors if in_sector(face, corner, point)][0]
        step = self.image * (first.conjugate() if not flips else first)
        self.laid[corner // one.turn] = local(other, placed, point, step)
        self.lay(corner // one.turn)

    def goal(self, face, vector):
        """How far a vector, by the first step of a face, leads on the other, in the frame of its spot."""
        return self.laid[face][2] * (vector.conjugate() if self.flips else vector)

    def straight(self, face, vector):
        its, point, step = self.laid[face]
        goal = point + self.goal(face, vector)
        return plain_straight(self.other, frame(self.other, its), point, goal) + (goal,)

    def over(self, side):
        """Where the face beyond a side comes to lie, by the step over it; None at a tip."""
        one = self.one
        face = side // one.turn
        own = frame(one, face)
        beyond = own.beyond(side)
        told = self.straight(face, middle(one, beyond) - middle(one, own))
        if told[0] == "tip" or told[2] is not None:
            return None
        first = first_side(one, beyond)
        return local(self.other, told[1], told[3], self.goal(face, beyond.end(first) - beyond.at[first]))

    def lay(self, first):
        order = [first]
        for face in order:
            for side in range(face * self.one.turn, (face + 1) * self.one.turn):
                beyond = self.one.skin.mate(side) // self.one.turn
                if beyond not in self.laid:
                    self.laid[beyond] = self.over(side)
                    order.append(beyond)

    def failings(self):
        """All failings but that of the end."""
        one, other = self.one, self.other
        found = set()
        for side in range(one.faces * one.turn):
            told = self.over(side)
            its = self.laid[one.skin.mate(side) // one.turn]
            if told is None:
                found.add(("tip", side))
            elif told[0] != its[0] or abs(told[1] - its[1]) > TINY or abs(told[2] - its[2]) > TINY:
                found.add(("centre", side))
            own = frame(one, side // one.turn)
            told = self.straight(side // one.turn, own.at[side] - middle(one, own))
            if told[0] == "at":
                many = other.full if told[2] is None else other.gathers[told[2]]
                if many != one.gathers[one.place_of(side)]:
                    found.add(("gathers", side))
        for face in range(one.faces):
            if self.tip_within(face):
                found.add(("point", face))
        return found

    def tip_within(self, face):
        one, other = self.one, self.other
        own = frame(one, face)
        rays = [point - middle(one, own) for point in own.at.values()]
        second = second_step(one)
        its, point, step = self.laid[face]
        # Points of the other's grid near the spot, in the frame of its face.
        for x in range(-2, 4):
            for y in range(-2, 4):
                goal = x + y * second
                back = (goal - point) / step
                ray = back.conjugate() if self.flips else back
                inside = within(own, middle(one, own) + ray)
                if inside and min(abs(ray - its_ray) for its_ray in rays) > TINY:
                    told = plain_straight(other, frame(other, its), point, goal)
                    if told[0] == "tip" or (told[2] is not None and other.gathers[told[2]] < other.full):
                        return True
        return False


def plain_failings(one, other, flips, walk, start):
    """All failings of a start."""
    own, its = plain_walk(one, walk[0], *walk[1]), plain_walk(other, start[0], *start[1])
    found = PlainLaying(one, other, flips, walk, start).failings()
    if its[0] == "ended" or other.gathers[its[1]] != one.gathers[own[1]]:
        found.add(("end", 0))
    return found


def plain_starts(one, other, walk):
    """The starts of a walk, in their order."""
    many = one.gathers[one.place_of(walk[0])]
    kind = one.kind
    square = sum_of(kind, walk[1])
    vectors = [(a, b) for a in range(1, 21) for b in range(21) if sum_of(kind, (a, b)) == square]
    return [(corner, vector) for corner in range(other.skin.sides)
            if other.gathers[other.place_of(corner)] == many and many < other.full for vector in vectors]


def sum_of(kind, vector):
    a, b = vector
    return a * a + b * b + (a * b if kind == "triangle" else 0)


def plain_tip_walks(body, most):
    """All walks from tip to tip of a square of at most so much, by their squares."""
    found = []
    for corner in range(body.skin.sides):
        if body.place_of(corner) in body.tips:
            for a in range(1, 21):
                for b in range(21):
                    if sum_of(body.kind, (a, b)) <= most:
                        told = plain_walk(body, corner, a, b)
                        if told[0] == "came" and told[1] in body.tips:
                            found.append((sum_of(body.kind, (a, b)), corner, (a, b)))
    return [row[1:] for row in sorted(found)]
