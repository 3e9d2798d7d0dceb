"""Which of several sayings parts the sewings of a book most evenly."""

from rimsewn.answers import book_stock, need_possible
from rimsewn.books import need_book, need_marks, need_sayings
from rimsewn.errors import BadSaying, TooMany
from rimsewn.papers import Paper

MOST_SAYINGS = 12


class Offer(Paper):
    """How many sewings keep each saying and how many do not; the number of the most even one."""

    def __init__(self, number, counts):
        Paper.__init__(self, "offer", number, counts)
        self.number = self.parts[0]
        self.counts = self.parts[1]


def need_told(book, sayings):
    """Refuses what is no list of sayings about a book."""
    need_book(book)
    need_sayings(sayings, "sayings")
    if len(sayings) == 0:
        raise BadSaying("sayings")
    for saying in sayings:
        saying.need_named(book.rim)


def need_few(book, sayings):
    """Refuses too many sayings, and one that names too many rim corners beside the book."""
    if len(sayings) > MOST_SAYINGS:
        raise TooMany("sayings", MOST_SAYINGS)
    for saying in sayings:
        need_marks(book.facts + (saying,))


def counted(book, sayings):
    """The Offer of these sayings, whether or not the book is possible."""
    whole = book_stock(book, ()).how_many()
    kept = [book_stock(book, (saying,)).how_many() for saying in sayings]
    counts = [(number, whole - number) for number in kept]
    greater = [max(pair) for pair in counts]
    return Offer(greater.index(min(greater)), counts)


def offer(book, sayings):
    """The Offer of these sayings."""
    need_told(book, sayings)
    need_possible(book)
    need_few(book, sayings)
    return counted(book, sayings)
