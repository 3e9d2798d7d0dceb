"""Rims: a kind of grid and the amounts of the rim corners."""

from rimsewn.checks import is_row, is_within
from rimsewn.errors import BadRim, BadText, NoCorner, TooMany
from rimsewn.grids import KINDS, full_of, need_kind
from rimsewn.sheets import need_sheet
from rimsewn.texts import number_at, word_at, words_of

MOST_EDGES = 50


class Rim:
    """A kind of grid and the amounts of the rim corners."""

    def __init__(self, kind, amounts):
        need_kind(kind)
        if not is_row(amounts) or len(amounts) < 2 or min(amounts) < 1:
            raise BadRim("amounts")
        full = full_of(kind)
        if 2 * sum(amounts) != full * (len(amounts) - 2):
            raise BadRim("sum")
        if len(amounts) > MOST_EDGES:
            raise TooMany("edges", MOST_EDGES)
        self.kind = kind
        self.amounts = tuple(amounts)
        self.full = full

    def __len__(self):
        return len(self.amounts)

    @staticmethod
    def of(sheet):
        """The rim of a sheet."""
        need_sheet(sheet)
        return Rim(sheet.kind, sheet.amounts)

    def turned(self, many):
        """The Rim of which rim corner 0 is rim corner many of this one."""
        need_corner(many, len(self))
        return Rim(self.kind, self.amounts[many:] + self.amounts[:many])

    def mirrored(self):
        """The Rim told the other way about; rim corner 0 stays."""
        return Rim(self.kind, self.amounts[:1] + self.amounts[:0:-1])

    def __eq__(self, other):
        return isinstance(other, Rim) and self.kind == other.kind and self.amounts == other.amounts

    def __str__(self):
        return " ".join([self.kind] + [str(amount) for amount in self.amounts])

    @staticmethod
    def read(text):
        """The Rim of a text."""
        words = words_of(text)
        kind = word_at(words, 0, KINDS)
        # Two amounts are wanted at least: where there are fewer, one is missing.
        amounts = [amount_at(words, at) for at in range(1, max(len(words), 3))]
        try:
            return Rim(kind, amounts)
        except BadRim:
            raise BadText(0, len(words) - 1) from None


def need_rim(rim):
    """Refuses what is no rim."""
    if not isinstance(rim, Rim):
        raise BadRim("rim")


def amount_at(words, at):
    """The amount at an index of the words of a text."""
    if at > MOST_EDGES:
        raise BadText(0, at)
    return number_at(words, at, 1, None)


def need_corner(corner, many):
    """Refuses what is none of so many rim corners."""
    if not is_within(corner, 0, many - 1):
        raise NoCorner(corner)
