"""The words of all pairs of edges and of rim corners of a book, by one table.

The weights around a stretch tell, for each of its entries, how many ways there are to join all edges
outside of it so that a sewing that keeps the book comes about.
"""

from rimsewn.answers import book_stock, need_possible
from rimsewn.books import MOST_MARKS, need_book
from rimsewn.errors import TooMany
from rimsewn.stretches import finished_kinds, inner_weights, outer_weights, put_together, stretches_of, weighed

MOST_MARKS_MET = 2


def add_weights(weights, more, ways):
    """Adds weights, each so many times, to those of a stretch."""
    for entry, many in more.items():
        weights[entry] = weights.get(entry, 0) + many * ways


def hand_on(stock, low, high, around, joined):
    """Hands the weights around a stretch on to those within it, and counts who edge low is joined to."""
    terms, table = stock.terms, stock.table
    weights = around[(low, high)]
    for top in range(low + 2, high + 1, 2):
        within = inner_weights(terms, table, low, top, high, weights)
        pair = (low, top - 1)
        joined[pair] = joined.get(pair, 0) + weighed(table[(low + 1, top - 1)], within)
        add_weights(around[(low + 1, top - 1)], within, 1)
        for kind, ways in finished_kinds(terms, table, low, top).items():
            add_weights(around[(top, high)], outer_weights(terms, table, top, high, kind, weights), ways)


def weights_around(stock):
    """The weights around all stretches, and for each pair of edges how many sewings join it."""
    size = stock.edges
    around = {(low, high): {} for low in range(size + 1) for high in range(low, size + 1, 2)}
    around[(0, size)] = stock.fits
    joined = {}
    # What is handed on goes to shorter stretches only, so the longest ones come first.
    for width in range(size, 0, -2):
        for low in range(size - width + 1):
            hand_on(stock, low, low + width, around, joined)
    return around, joined


def parted_at(stock, low, corner, high, weights):
    """How many sewings join the edges from low to corner among themselves, and those from there to high."""
    terms, table = stock.terms, stock.table
    many = 0
    for (total, marks, kind), ways in table[(low, corner)].items():
        for other, more in table[(corner, high)].items():
            together = put_together(terms, corner, high, kind, other)
            if together is not None:
                entry = (total + together[0], marks + together[1], together[2])
                many += ways * more * weights.get(entry, 0)
    return many


def meetings(stock, around):
    """For each pair of rim corners how many sewings let them meet."""
    met = {}
    for low, high in stretches_of(stock.edges):
        weights = around[(low, high)]
        for corner in range(low + 2, high + 1, 2):
            pair = (low, corner)
            met[pair] = met.get(pair, 0) + parted_at(stock, low, corner, high, weights)
    return met


def word_for(many, whole):
    """The word of a saying that so many of all sewings keep."""
    if many == 0:
        return "never"
    return "always" if many == whole else "both"


def possible_stock(book):
    """The stock of the sewings that keep a book, which is possible."""
    need_book(book)
    need_possible(book)
    return book_stock(book, ())


def joined_words(book):
    """For each two edges that can be joined the word of Joined."""
    stock = possible_stock(book)
    joined = weights_around(stock)[1]
    whole = stock.how_many()
    return tuple([(one, other, word_for(joined[(one, other)], whole))
                  for one in range(stock.edges) for other in range(one + 1, stock.edges, 2)])


def met_words(book):
    """For each two rim corners that can meet the word of Meet."""
    stock = possible_stock(book)
    if len(book.marks) > MOST_MARKS_MET:
        raise TooMany("marks", MOST_MARKS)
    met = meetings(stock, weights_around(stock)[0])
    whole = stock.how_many()
    return tuple([(one, other, word_for(met[(one, other)], whole))
                  for one in range(stock.edges) for other in range(one + 2, stock.edges, 2)])
