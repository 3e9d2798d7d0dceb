"""Skins: faces of one kind of grid, and the seams between their sides."""

from rimsewn.checks import first_twice, is_listed, is_within
from rimsewn.errors import BadSkin, BadText, NoSide, TooMany, Twice
from rimsewn.grids import KINDS, full_of, need_kind, sides_of
from rimsewn.texts import number_at, word_at, words_of

MOST_FACES = 24


def is_seam(value, sides):
    """Whether any value is a pair of different sides."""
    if not is_listed(value) or len(value) != 2:
        return False
    one, other = value
    return is_within(one, 0, sides - 1) and is_within(other, 0, sides - 1) and one != other


def need_seams(seams, sides):
    """Refuses what is no list of pairs of different sides."""
    if not is_listed(seams) or not all([is_seam(seam, sides) for seam in seams]):
        raise BadSkin("seams")


def sides_in(seams):
    """The sides of the seams, as they are told."""
    return [side for seam in seams for side in seam]


def mates_of(seams, sides):
    """For each side its mate, None for a free one."""
    mates = [None] * sides
    for one, other in seams:
        mates[one] = other
        mates[other] = one
    return tuple(mates)


def turned_sides(sides, turn, by):
    """For each side the one that stands so many places behind it in its face."""
    return tuple([side // turn * turn + (side + by) % turn for side in range(sides)])


class Skin:
    """A kind of grid, a number of faces, and seams."""

    def __init__(self, kind, faces, seams=()):
        need_kind(kind)
        if not is_within(faces, 1, None):
            raise BadSkin("faces")
        turn = sides_of(kind)
        need_seams(seams, faces * turn)
        twice = first_twice(sides_in(seams))
        if twice is not None:
            raise Twice(twice)
        if faces > MOST_FACES:
            raise TooMany("faces", MOST_FACES)
        self.kind = kind
        self.faces = faces
        self.turn = turn
        self.full = full_of(kind)
        self.sides = faces * turn
        self.seams = tuple(sorted([(min(seam), max(seam)) for seam in seams]))
        self.mates = mates_of(seams, self.sides)
        # Walks ask for these so often that they are told beforehand.
        self.nexts = turned_sides(self.sides, turn, 1)
        self.backs = turned_sides(self.sides, turn, turn - 1)
        self.free = tuple([side for side in range(self.sides) if self.mates[side] is None])

    def need_side(self, side):
        """Refuses what is no side."""
        if not is_within(side, 0, self.sides - 1):
            raise NoSide(side)

    def mate(self, side):
        """The side to which this one is joined, None for a free one."""
        self.need_side(side)
        return self.mates[side]

    def next(self, side):
        """The side behind this one in its face, counterclockwise."""
        self.need_side(side)
        return self.nexts[side]

    def back(self, side):
        """The side ahead of this one in its face."""
        self.need_side(side)
        return self.backs[side]

    def face(self, side):
        """The face of a side."""
        self.need_side(side)
        return side // self.turn

    def with_seams(self, seams):
        """The Skin with these seams, too."""
        need_seams(seams, self.sides)
        return Skin(self.kind, self.faces, self.seams + tuple(seams))

    def mirrored(self):
        """The Skin of the same faces, seen from behind."""
        seams = [[self.mirror_of(side) for side in seam] for seam in self.seams]
        return Skin(self.kind, self.faces, seams)

    def mirror_of(self, side):
        """The number of a side in the mirrored skin."""
        return side // self.turn * self.turn + self.turn - 1 - side % self.turn

    def __eq__(self, other):
        return (isinstance(other, Skin) and self.kind == other.kind
                and self.faces == other.faces and self.seams == other.seams)

    def __str__(self):
        return " ".join(skin_words(self))

    @staticmethod
    def read(text):
        """The Skin of a text."""
        words = words_of(text)
        kind = word_at(words, 0, KINDS)
        faces = number_at(words, 1, 1, MOST_FACES)
        word_at(words, 2, (":",))
        return Skin(kind, faces, read_seams(words, faces * sides_of(kind)))


def need_skin(skin):
    """Refuses what is no skin."""
    if not isinstance(skin, Skin):
        raise BadSkin("skin")


def skin_words(skin):
    """The words of the text of a skin."""
    head = [skin.kind, str(skin.faces), ":"]
    if not skin.seams:
        return head
    return head + [" / ".join([f"{one} {other}" for one, other in skin.seams])]


def read_seams(words, sides):
    """The seams that the words from the fourth one on tell."""
    seams = []
    used = set()
    least = 0
    at = 3
    while at < len(words):
        one = number_at(words, at, least, sides - 1)
        if one in used:
            raise BadText(0, at)
        other = number_at(words, at + 1, one + 1, sides - 1)
        if other in used:
            raise BadText(0, at + 1)
        seams.append((one, other))
        used.add(one)
        used.add(other)
        least = one + 1
        at += 2
        if at < len(words):
            word_at(words, at, ("/",))
            at += 1
            if at == len(words):
                raise BadText(0, at)
    return seams
