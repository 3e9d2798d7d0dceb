"""What is sure of all sewings that keep a book."""

from rimsewn.books import need_book, need_marks
from rimsewn.errors import BadNesting, Impossible
from rimsewn.orders import Stock
from rimsewn.papers import Denial, Paper
from rimsewn.sayings import need_saying
from rimsewn.sewn import first_of, nesting_at
from rimsewn.terms import Terms


class Always(Paper):
    """Rows of a closed table of the book with the not of the saying put in, of which no entry fits."""

    def __init__(self, rows):
        Paper.__init__(self, "always", rows)
        self.rows = self.parts[0]


class Never(Denial):
    """Rows of a closed table of the book with the saying put in, of which no entry fits."""

    def __init__(self, rows):
        Denial.__init__(self, "never", rows)
        self.rows = self.parts[0]


class Both(Paper):
    """Partners of two sewings that keep the book; the saying holds for the first one only."""

    def __init__(self, one, other):
        Paper.__init__(self, "both", one, other)
        self.one = self.parts[0]
        self.other = self.parts[1]


def book_terms(book, put_in, with_numbers):
    """The terms of a book with these sayings put in."""
    return Terms(book.rim, book.facts + put_in, book.colours, with_numbers)


def book_stock(book, put_in):
    """The stock of the sewings that keep a book with these sayings put in."""
    return Stock(book_terms(book, put_in, False))


def need_possible(book):
    """Refuses a book that is not possible."""
    paper = possible(book)
    if not paper:
        raise Impossible(paper)


def possible(book):
    """The Sewing that is the first one that keeps the book; an Unsewn if there is none."""
    need_book(book)
    return first_of(book_stock(book, ()))


def word_of(book, saying):
    """The Always, the Never or a Both of a saying about the book."""
    need_book(book)
    need_saying(saying)
    saying.need_named(book.rim)
    need_possible(book)
    need_marks(book.facts + (saying,))
    kept = book_stock(book, (saying,))
    if not kept.fits:
        return Never(kept.told_rows())
    broken = book_stock(book, (~saying,))
    if not broken.fits:
        return Always(broken.told_rows())
    return Both(kept.partners_at(0), broken.partners_at(0))


def many(book):
    """How many sewings keep the book."""
    need_book(book)
    return book_stock(book, ()).how_many()


def nth(book, number):
    """The Nesting that is the one with this number of those that keep the book."""
    need_book(book)
    return nesting_at(book_stock(book, ()), number)


def number_in(book, nesting):
    """The number of a nesting that keeps the book."""
    need_book(book)
    if not book.keeps(nesting):
        raise BadNesting("kept")
    return book_stock(book, ()).number_for(nesting.partners)


def kinds(book):
    """The kinds that come, each with how many sewings have it, ascending."""
    need_book(book)
    return Stock(book_terms(book, (), True)).kinds_found()
