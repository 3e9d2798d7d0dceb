"""Bodies that are alike by faces, told by their codes."""

from rimsewn.bodies import Body, need_bodies, need_body, need_corner_of, need_one_kind
from rimsewn.papers import Denial, Paper
from rimsewn.skins import Skin


class Renaming(Paper):
    """For each side of one body the side of another one to which it goes."""

    def __init__(self, sides):
        Paper.__init__(self, "renaming", sides)
        self.sides = self.parts[0]


class Unlike(Denial):
    """Two codes that are not equal."""

    def __init__(self, code, other):
        Denial.__init__(self, "unlike", code, other)
        self.code = self.parts[0]
        self.other = self.parts[1]


def turn_from(skin, side):
    """The sides of a face in turn, from one of them on."""
    found = [side]
    behind = skin.nexts[side]
    while behind != side:
        found.append(behind)
        behind = skin.nexts[behind]
    return found


def numbered_from(skin, side):
    """All sides, in the order of the numbering from a side."""
    order = turn_from(skin, side)
    reached = {side // skin.turn: True}
    at = 0
    while at < len(order):
        mate = skin.mates[order[at]]
        # A free side has no mate, and leads to no further face.
        if mate is not None and mate // skin.turn not in reached:
            reached[mate // skin.turn] = True
            order.extend(turn_from(skin, mate))
        at += 1
    return order


def row_of(skin, order):
    """The row of mates of a numbering, told by its order of sides; -1 for a free side."""
    number_of = {side: number for number, side in enumerate(order)}
    return tuple([number_of.get(skin.mates[side], -1) for side in order])


def row_from(skin, side):
    """The row of mates of the numbering from a side."""
    return row_of(skin, numbered_from(skin, side))


def lesser_row(skin, first, best):
    """The row of mates of the numbering from a side if it is less than the best one, otherwise None."""
    order = turn_from(skin, first)
    number_of = {side: number for number, side in enumerate(order)}
    row = []
    less = False
    while len(row) < len(order):
        mate = skin.mates[order[len(row)]]
        if mate is not None and mate not in number_of:
            for side in turn_from(skin, mate):
                number_of[side] = len(order)
                order.append(side)
        number = number_of.get(mate, -1)
        # Most numberings are seen to be no less after a few sides.
        if not less and number > best[len(row)]:
            return None
        less = less or number < best[len(row)]
        row.append(number)
    return tuple(row) if less else None


def least_row(skin):
    """The least of the rows of mates of the numberings from all sides, and the least side from which it comes."""
    best, first = row_from(skin, 0), 0
    for side in range(1, skin.sides):
        row = lesser_row(skin, side, best)
        if row is not None:
            best, first = row, side
    return best, first


def mates_from(body, side):
    """The row of mates of the numbering from a side."""
    need_body(body, "body")
    need_corner_of(body, side)
    return row_from(body.skin, side)


def code_of(body):
    """The code: the least of the rows of mates."""
    need_body(body, "body")
    return least_row(body.skin)[0]


def skin_of_row(kind, faces, row):
    """The Skin with this row of mates."""
    return Skin(kind, faces, [(side, mate) for side, mate in enumerate(row) if side < mate])


def first_form(body):
    """The Body whose mates are the code."""
    need_body(body, "body")
    return Body(skin_of_row(body.kind, body.faces, code_of(body)))


def goals_by(own, its, many):
    """For each side the one that stands at its place in another order."""
    goal_of = {side: goal for side, goal in zip(own, its)}
    return tuple([goal_of[side] for side in range(many)])


def order_of(skin, mirrored):
    """The order of the numbering from side 0, and its row of mates; of the mirrored skin if that is asked."""
    if not mirrored:
        order = numbered_from(skin, 0)
        return order, row_of(skin, order)
    seen_behind = skin.mirrored()
    order = numbered_from(seen_behind, skin.mirror_of(0))
    return [skin.mirror_of(side) for side in order], row_of(seen_behind, order)


def renaming_to(order, row, skin, side):
    """The sides of the renaming that brings side 0 to a side of this skin, None if there is none."""
    its = numbered_from(skin, side)
    return goals_by(order, its, len(order)) if row_of(skin, its) == row else None


def alike_by_faces(one, other, mirrored=False):
    """The least Renaming of one onto other, mirrored if that is asked; an Unlike if there is none."""
    need_bodies(one, other)
    need_one_kind(one, other)
    order, row = order_of(one.skin, mirrored)
    for side in range(other.skin.sides):
        sides = renaming_to(order, row, other.skin, side)
        if sides is not None:
            return Renaming(sides)
    return Unlike(code_of(one.mirrored() if mirrored else one), code_of(other))
