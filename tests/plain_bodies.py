"""Plain counterparts of bodies and renamings, for the tests alone."""

import itertools

from plain import joined


def turn_of(kind):
    return 4 if kind == "square" else 3


def full_of_kind(kind):
    return 4 if kind == "square" else 6


def matchings(numbers):
    """All ways to join these numbers in pairs."""
    if not numbers:
        yield []
        return
    first = numbers[0]
    for other in numbers[1:]:
        for rest in matchings([number for number in numbers[1:] if number != other]):
            yield [(first, other)] + rest


def next_side(kind, side):
    turn = turn_of(kind)
    return side // turn * turn + (side + 1) % turn


def plain_places(kind, faces, seams):
    """The corners that come together, as sets: a side begins where its mate ends."""
    pairs = []
    for one, other in seams:
        pairs += [(one, next_side(kind, other)), (other, next_side(kind, one))]
    return joined(pairs, faces * turn_of(kind))


def plain_pieces(kind, faces, seams):
    turn = turn_of(kind)
    return len(joined([(one // turn, other // turn) for one, other in seams], faces))


def plain_refusal(kind, faces, seams):
    """What Body should raise for a skin, None for a body."""
    turn = turn_of(kind)
    if 2 * len(seams) < faces * turn:
        return ("BadBody", "open")
    if plain_pieces(kind, faces, seams) > 1:
        return ("BadBody", "pieces")
    places = plain_places(kind, faces, seams)
    if faces + len(places) - len(seams) != 2:
        return ("BadBody", "ball")
    for place in places:
        if len(place) > full_of_kind(kind):
            return ("TooMuch", min(place))
    return None


def face_maps(kind, mirrored):
    """All ways to bring the sides of a face to those of a face, in turn or backwards."""
    turn = turn_of(kind)
    return [[(shift + (-k if mirrored else k)) % turn for k in range(turn)] for shift in range(turn)]


def is_plain_renaming(one, other, mirrored, sides):
    """Whether a row of sides is a renaming of one onto other, by the words of the document."""
    turn = turn_of(one.kind)
    if one.kind != other.kind or len(sides) != one.faces * turn or sorted(sides) != list(range(other.faces * turn)):
        return False
    step = -1 if mirrored else 1
    for face in range(one.faces):
        row = sides[face * turn:face * turn + turn]
        if len({side // turn for side in row}) > 1:
            return False
        if any((row[(k + 1) % turn] - row[k] - step) % turn for k in range(turn)):
            return False
    return all(other.skin.mate(sides[side]) == sides[one.skin.mate(side)] for side in range(len(sides)))


def all_renamings(one, other, mirrored):
    """All renamings of small bodies, by trying all ways to bring faces to faces; ascending."""
    turn = turn_of(one.kind)
    found = []
    if one.faces != other.faces:
        return found
    for order in itertools.permutations(range(other.faces)):
        for maps in itertools.product(face_maps(one.kind, mirrored), repeat=one.faces):
            sides = [order[face] * turn + k for face in range(one.faces) for k in maps[face]]
            if is_plain_renaming(one, other, mirrored, sides):
                found.append(tuple(sides))
    return sorted(found)


def plain_row(body, first):
    """The row of mates of the numbering from a side, by the words of the document."""
    turn = body.turn
    number = {}

    def take(side):
        face = len(number) // turn
        for k in range(turn):
            number[side // turn * turn + (side + k) % turn] = face * turn + k

    take(first)
    at = 0
    while at < len(number):
        side = [old for old, new in number.items() if new == at][0]
        if body.skin.mate(side) not in number:
            take(body.skin.mate(side))
        at += 1
    row = [None] * len(number)
    for old, new in number.items():
        row[new] = number[body.skin.mate(old)]
    return tuple(row)


def plain_code(body):
    return min(plain_row(body, side) for side in range(body.faces * body.turn))
