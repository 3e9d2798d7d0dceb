"""Facts that clash, with none to spare."""

from rimsewn.books import need_book
from rimsewn.orders import Stock
from rimsewn.papers import Paper
from rimsewn.terms import Terms


class Clash(Paper):
    """Numbers of facts of which none can be left out, rows of their book, and a sewing for each left out."""

    def __init__(self, numbers, rows, spared):
        Paper.__init__(self, "clash", numbers, rows, spared)
        self.numbers = self.parts[0]
        self.rows = self.parts[1]
        self.spared = self.parts[2]


def terms_with(book, numbers):
    """The terms of the book of just these facts."""
    return Terms(book.rim, [book.facts[number] for number in numbers], book.colours, False)


def stock_with(book, numbers):
    """The stock of the sewings that keep the book of just these facts."""
    return Stock(terms_with(book, numbers))


def others_of(numbers, number):
    """The numbers without one of them."""
    return [other for other in numbers if other != number]


def clash(book):
    """The Clash that is left when facts are struck from the last one on; None for a possible book."""
    need_book(book)
    numbers = list(range(len(book)))
    if stock_with(book, numbers).fits:
        return None
    for number in range(len(book) - 1, -1, -1):
        fewer = others_of(numbers, number)
        if not stock_with(book, fewer).fits:
            numbers = fewer
    spared = [stock_with(book, others_of(numbers, number)).partners_at(0) for number in numbers]
    return Clash(numbers, stock_with(book, numbers).told_rows(), spared)
