"""Sheets: skins in one piece, flat within, with one closed rim."""

from rimsewn.checks import is_within
from rimsewn.errors import BadSheet, BadText, NoCorner, NoEdge, NoFace
from rimsewn.places import pieces, places, rims, surplus
from rimsewn.skins import Skin, need_skin
from rimsewn.texts import words_of


def need_edge(edge, many):
    """Refuses what is none of so many edges."""
    if not is_within(edge, 0, many - 1):
        raise NoEdge(edge)


def need_flat(skin):
    """Refuses a skin that is no sheet."""
    if pieces(skin) != 1:
        raise BadSheet("pieces")
    if len(rims(skin)) != 1:
        raise BadSheet("rims")
    if surplus(skin) != 1:
        raise BadSheet("surplus")
    inner = [place for place in places(skin) if skin.mate(place[0]) is not None]
    if any([len(place) != skin.full for place in inner]):
        raise BadSheet("inside")


class Sheet:
    """A skin that is a sheet; the sides of its rim are its edges."""

    def __init__(self, skin):
        need_skin(skin)
        need_flat(skin)
        self.skin = skin
        self.kind = skin.kind
        self.faces = skin.faces
        self.rim = rims(skin)[0]
        many = {place[0]: len(place) for place in places(skin)}
        self.amounts = tuple([many[side] for side in self.rim])

    def __len__(self):
        return len(self.rim)

    @staticmethod
    def single(kind):
        """The sheet of one face."""
        return Sheet(Skin(kind, 1))

    def put_on(self, edge):
        """A Sheet with one more face, joined to the edge by its side 0."""
        need_edge(edge, len(self))
        seam = (self.rim[edge], self.skin.sides)
        return Sheet(Skin(self.kind, self.faces + 1, self.skin.seams + (seam,)))

    def tucked(self, corner):
        """A Sheet with the two edges joined that meet at a rim corner."""
        if not is_within(corner, 0, len(self) - 1):
            raise NoCorner(corner)
        if self.amounts[corner] != self.skin.full:
            raise BadSheet("tuck")
        seam = (self.rim[corner - 1], self.rim[corner])
        return Sheet(self.skin.with_seams([seam]))

    def taken(self, face):
        """A Sheet without this face and its seams."""
        if not is_within(face, 0, self.faces - 1):
            raise NoFace(face)
        if self.faces == 1:
            raise BadSheet("taken")
        try:
            return Sheet(without_face(self.skin, face))
        except BadSheet:
            raise BadSheet("taken") from None

    def mirrored(self):
        """The Sheet of the mirrored skin."""
        return Sheet(self.skin.mirrored())

    def __eq__(self, other):
        return isinstance(other, Sheet) and self.skin == other.skin

    def __str__(self):
        return str(self.skin)

    @staticmethod
    def read(text):
        """The Sheet of a text."""
        skin = Skin.read(text)
        try:
            return Sheet(skin)
        except BadSheet:
            raise BadText(0, len(words_of(text)) - 1) from None


def need_sheet(sheet):
    """Refuses what is no sheet."""
    if not isinstance(sheet, Sheet):
        raise BadSheet("sheet")


def without_face(skin, face):
    """The Skin without a face; later faces are numbered one less."""
    kept = [seam for seam in skin.seams if face not in [skin.face(side) for side in seam]]
    seams = [[side if skin.face(side) < face else side - skin.turn for side in seam] for seam in kept]
    return Skin(skin.kind, skin.faces - 1, seams)
