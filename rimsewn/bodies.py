"""Bodies: closed skins at none of whose places more than a full round gathers."""

from rimsewn.checks import is_row, is_within
from rimsewn.errors import BadBody, BadNumber, BadText, Misfit, NoSide, TooMuch
from rimsewn.nestings import need_nesting
from rimsewn.places import pieces, places, surplus
from rimsewn.rims import Rim
from rimsewn.sheets import need_sheet
from rimsewn.skins import Skin, need_skin
from rimsewn.sums import too_much
from rimsewn.texts import words_of

BALL = 2


def need_ball(skin):
    """Refuses a skin that is no ball in one piece."""
    if len(skin.free) > 0:
        raise BadBody("open")
    if pieces(skin) != 1:
        raise BadBody("pieces")
    if surplus(skin) != BALL:
        raise BadBody("ball")


def indexes_at(told, corners):
    """For each corner the index of its place."""
    index_of = {corner: index for index, place in enumerate(told) for corner in place}
    return tuple([index_of[corner] for corner in range(corners)])


class Body:
    """A skin that is a body."""

    def __init__(self, skin):
        need_skin(skin)
        need_ball(skin)
        told = places(skin)
        for place in told:
            if len(place) > skin.full:
                raise TooMuch(place[0])
        self.skin = skin
        self.kind = skin.kind
        self.faces = skin.faces
        self.turn = skin.turn
        self.full = skin.full
        self.places = told
        self.gathers = tuple([len(place) for place in told])
        self.tips = tuple([index for index, many in enumerate(self.gathers) if many < skin.full])
        self.tally = tuple([self.gathers.count(many) for many in range(1, skin.full)])
        self.place_at = indexes_at(told, skin.sides)

    def place_of(self, corner):
        """The index of the place of a corner."""
        need_corner_of(self, corner)
        return self.place_at[corner]

    def mirrored(self):
        """The Body of the mirrored skin."""
        return Body(self.skin.mirrored())

    def renamed(self, faces, shifts):
        """The Body in which face f has the number faces[f] and begins with its side shifts[f]."""
        if not is_row(faces) or sorted(faces) != list(range(self.faces)):
            raise BadNumber("faces")
        if not is_row(shifts) or len(shifts) != self.faces:
            raise BadNumber("shifts")
        if not all([is_within(shift, 0, self.turn - 1) for shift in shifts]):
            raise BadNumber("shifts")
        turn = self.turn
        names = [faces[side // turn] * turn + (side - shifts[side // turn]) % turn for side in range(self.skin.sides)]
        seams = [(names[one], names[other]) for one, other in self.skin.seams]
        return Body(Skin(self.kind, self.faces, seams))

    def __eq__(self, other):
        return isinstance(other, Body) and self.skin == other.skin

    def __str__(self):
        return str(self.skin)

    @staticmethod
    def read(text):
        """The Body of a text."""
        skin = Skin.read(text)
        try:
            return Body(skin)
        except (BadBody, TooMuch):
            raise BadText(0, len(words_of(text)) - 1) from None


def need_body(body, part):
    """Refuses what is no body, with the name of the parameter."""
    if not isinstance(body, Body):
        raise BadBody(part)


def need_bodies(one, other):
    """Refuses what is no pair of bodies."""
    need_body(one, "one")
    need_body(other, "other")


def need_one_kind(one, other):
    """Refuses bodies of unlike kinds of grid."""
    if one.kind != other.kind:
        raise Misfit("kind")


def need_corner_of(body, corner):
    """Refuses what is no corner, and no side, of a body."""
    if not is_within(corner, 0, body.skin.sides - 1):
        raise NoSide(corner)


def sewn(sheet, nesting):
    """The Body made of a sheet by joining each edge to its partner."""
    need_sheet(sheet)
    need_nesting(nesting)
    corner = too_much(Rim.of(sheet), nesting)
    if corner is not None:
        raise TooMuch(corner)
    return Body(sheet.skin.with_seams([(sheet.rim[one], sheet.rim[other]) for one, other in nesting.pairs]))
