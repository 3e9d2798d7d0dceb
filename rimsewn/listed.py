"""All bodies of few faces."""

from rimsewn.bodies import BALL, Body
from rimsewn.checks import is_within
from rimsewn.codes import code_of, skin_of_row
from rimsewn.errors import BadNumber
from rimsewn.grids import full_of, need_kind, sides_of

MOST_SQUARES = 4
MOST_TRIANGLES = 6


def rows_behind(mates, known, turn):
    """All rows of mates of numberings that go on so; known is how many faces have a number."""
    if None not in mates[:known * turn]:
        return [tuple(mates)] if known * turn == len(mates) else []
    one = mates.index(None)
    # Of the faces without a number only the first side of the next one can be a mate.
    last = known * turn if known * turn < len(mates) else len(mates) - 1
    rows = []
    for other in range(one + 1, last + 1):
        if mates[other] is None:
            more = list(mates)
            more[one] = other
            more[other] = one
            rows.extend(rows_behind(more, max(known, other // turn + 1), turn))
    return rows


def sizes_of_places(row, turn):
    """What gathers at the places of a closed skin with this row of mates."""
    sizes = []
    seen = set()
    for start in range(len(row)):
        corner = start
        many = 0
        while corner not in seen:
            seen.add(corner)
            many += 1
            corner = row[corner // turn * turn + (corner - 1) % turn]
        if many > 0:
            sizes.append(many)
    return sizes


def is_of_body(row, turn, full):
    """Whether a row of mates is that of a body."""
    sizes = sizes_of_places(row, turn)
    return len(row) // turn + len(sizes) - len(row) // 2 == BALL and max(sizes) <= full


def bodies_of(kind, faces):
    """All bodies of so many faces, one of each, mirrored alike or not, ascending by their codes."""
    need_kind(kind)
    if not is_within(faces, 1, MOST_SQUARES if kind == "square" else MOST_TRIANGLES):
        raise BadNumber("faces")
    turn = sides_of(kind)
    rows = sorted(rows_behind([None] * (faces * turn), 1, turn))
    found = []
    for row in rows:
        if is_of_body(row, turn, full_of(kind)):
            body = Body(skin_of_row(kind, faces, row))
            if row == code_of(body) and row <= code_of(body.mirrored()):
                found.append(body)
    return tuple(found)


def tallies_of(kind, faces):
    """The tallies that such bodies have, each with how many have it, ascending."""
    found = {}
    for body in bodies_of(kind, faces):
        found[body.tally] = found.get(body.tally, 0) + 1
    return tuple([(tally, found[tally]) for tally in sorted(list(found))])
