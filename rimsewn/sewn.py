"""The sewings of a rim."""

from rimsewn.checks import is_within
from rimsewn.errors import BadNesting, BadNumber
from rimsewn.nestings import Nesting
from rimsewn.orders import Stock, listed_parts
from rimsewn.papers import Denial, Paper
from rimsewn.rims import need_rim
from rimsewn.sums import is_sewing
from rimsewn.terms import Terms


class Sewing(Paper):
    """The partners of a sewing."""

    def __init__(self, partners):
        Paper.__init__(self, "sewing", partners)
        self.partners = self.parts[0]


class Unsewn(Denial):
    """Rows of a closed table that shows that there is no sewing."""

    def __init__(self, rows):
        Denial.__init__(self, "unsewn", rows)
        self.rows = self.parts[0]


def stock_of(rim, with_numbers):
    """The stock of all sewings of a rim."""
    need_rim(rim)
    return Stock(Terms(rim, (), None, with_numbers))


def first_of(stock):
    """The Sewing that is the first of a stock; an Unsewn if it has none."""
    if not stock.fits:
        return Unsewn(stock.told_rows())
    return Sewing(stock.partners_at(0))


def nesting_at(stock, number):
    """The Nesting that is the sewing with this number in a stock."""
    if not is_within(number, 0, stock.how_many() - 1):
        raise BadNumber("number")
    return Nesting(stock.partners_at(number))


def sew(rim):
    """The Sewing that is the first in the order of partners; an Unsewn if there is none."""
    return first_of(stock_of(rim, False))


def many_sewings(rim):
    """How many sewings there are."""
    return stock_of(rim, False).how_many()


def sewing_at(rim, number):
    """The Nesting that is the sewing with this number, in the order of partners."""
    return nesting_at(stock_of(rim, False), number)


def number_of(rim, nesting):
    """The number of a sewing, in the order of partners."""
    if not is_sewing(rim, nesting):
        raise BadNesting("sewing")
    return stock_of(rim, False).number_for(nesting.partners)


def sewings(rim):
    """Yields all sewings, Nestings, in the order of partners."""
    stock = stock_of(rim, False)
    weights = stock.fits
    edges = stock.edges
    for partners, entry in listed_parts(stock, 0, edges, weights):
        yield Nesting(partners)


def by_kinds(rim):
    """The kinds that come, each with how many sewings have it, ascending."""
    return stock_of(rim, True).kinds_found()
