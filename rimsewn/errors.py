"""All errors of the package, each with the fields with which it is made."""


class SewError(ValueError):
    """The base of all errors of the package."""


class BadKind(SewError):
    """No kind of grid."""

    def __init__(self, part):
        self.part = part


class BadSkin(SewError):
    """No skin, or what is no part of one."""

    def __init__(self, part):
        self.part = part


class BadSheet(SewError):
    """No sheet, or a skin that is none."""

    def __init__(self, part):
        self.part = part


class BadCells(SewError):
    """No list of cells."""

    def __init__(self, part):
        self.part = part


class BadRim(SewError):
    """No rim, or amounts that make none."""

    def __init__(self, part):
        self.part = part


class BadNesting(SewError):
    """No nesting, or not one of those that are asked for."""

    def __init__(self, part):
        self.part = part


class BadSaying(SewError):
    """No saying, or a number that none has."""

    def __init__(self, part):
        self.part = part


class BadBook(SewError):
    """No book, or what is no part of one."""

    def __init__(self, part):
        self.part = part


class BadBody(SewError):
    """No body, or a skin that is none."""

    def __init__(self, part):
        self.part = part


class BadCut(SewError):
    """No cut, or seams that are none."""

    def __init__(self, part):
        self.part = part


class BadNumber(SewError):
    """No integer, or one beyond its bounds."""

    def __init__(self, part):
        self.part = part


class BadPaper(SewError):
    """No paper of the class that is asked for."""

    def __init__(self, part):
        self.part = part


class BadDesk(SewError):
    """No desk, or what is no part of one."""

    def __init__(self, part):
        self.part = part


class Misfit(SewError):
    """Values that do not fit together."""

    def __init__(self, part):
        self.part = part


class Missing(SewError):
    """A value that is none here."""

    def __init__(self, value):
        self.value = value


class NoSide(Missing):
    """No side, or no corner of a face."""


class NoFace(Missing):
    """No face."""


class NoEdge(Missing):
    """No edge."""


class NoCorner(Missing):
    """No rim corner."""


class NoPlace(Missing):
    """No place."""


class NoFact(Missing):
    """No number of a fact."""


class NoName(Missing):
    """No name under which such a thing is kept."""


class Twice(SewError):
    """A value that stands there already."""

    def __init__(self, value):
        self.value = value


class Crossing(SewError):
    """Two edges whose pairs cross."""

    def __init__(self, one, other):
        self.one = one
        self.other = other


class TooMuch(SewError):
    """A corner at whose place more than a full round gathers."""

    def __init__(self, corner):
        self.corner = corner


class Impossible(SewError):
    """What is asked for cannot be; a denial shows it."""

    def __init__(self, paper):
        self.paper = paper


class TooMany(SewError):
    """There are more than most."""

    def __init__(self, what, most):
        self.what = what
        self.most = most


class Nothing(SewError):
    """There is nothing in hand, or nothing to take back."""


class BadText(SewError):
    """A text with a word that cannot stand, or is missing."""

    def __init__(self, line, word):
        self.line = line
        self.word = word


class BadLine(SewError):
    """A line of a desk, and the error raised there."""

    def __init__(self, line, error):
        self.line = line
        self.error = error
