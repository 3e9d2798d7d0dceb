"""What the seams of a skin bring together: places, rims, pieces."""

from rimsewn.skins import need_skin


def round_from(skin, corner):
    """The corner behind this one round its place, None if it is the last one at the rim."""
    need_skin(skin)
    return skin.mate(skin.back(corner))


def place_from(skin, start):
    """The place that is told beginning with this corner."""
    place = [start]
    corner = round_from(skin, start)
    while corner is not None and corner != start:
        place.append(corner)
        corner = round_from(skin, corner)
    return tuple(place)


def places(skin):
    """All places, ascending by their least corners."""
    need_skin(skin)
    found = []
    seen = set()
    # Places at the rim begin with a free side; with these told, each other place is an inner one.
    for start in list(skin.free) + list(range(skin.sides)):
        if start not in seen:
            place = place_from(skin, start)
            found.append(place)
            for corner in place:
                seen.add(corner)
    return tuple(sorted(found, key=min))


def place_of(skin, corner):
    """The index of the place that has this corner."""
    need_skin(skin)
    skin.need_side(corner)
    told = places(skin)
    return [index for index in range(len(told)) if corner in told[index]][0]


def gathers(skin):
    """What the places gather, place by place."""
    return tuple([len(place) for place in places(skin)])


def rim_from(skin, side, first_corners):
    """The rim that is told beginning with this free side."""
    rim = [side]
    behind = first_corners[skin.next(side)]
    while behind != side:
        rim.append(behind)
        behind = first_corners[skin.next(behind)]
    return tuple(rim)


def rims(skin):
    """All rims, ascending."""
    need_skin(skin)
    first_corners = {place[-1]: place[0] for place in places(skin)}
    found = []
    seen = set()
    for side in skin.free:
        if side not in seen:
            rim = rim_from(skin, side, first_corners)
            found.append(rim)
            for behind in rim:
                seen.add(behind)
    return tuple(found)


def pieces(skin):
    """How many pieces there are."""
    need_skin(skin)
    piece_of = list(range(skin.faces))
    for seam in skin.seams:
        one, other = [piece_of[skin.face(side)] for side in seam]
        piece_of = [one if piece == other else piece for piece in piece_of]
    return len(set(piece_of))


def surplus(skin):
    """Faces and places, less sides, where a seam is one side."""
    need_skin(skin)
    return skin.faces + len(places(skin)) - (skin.sides - len(skin.seams))
