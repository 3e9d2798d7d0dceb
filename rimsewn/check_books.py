"""Whether a value shows what is sure of a book."""

from rimsewn.answers import Always, Both, Never, book_terms
from rimsewn.books import Book, need_book, need_marks
from rimsewn.check_sewn import nesting_or_none
from rimsewn.checks import are_numbers, is_listed
from rimsewn.clashes import Clash, others_of, terms_with
from rimsewn.offers import Offer, counted, need_few, need_told
from rimsewn.papers import exactly
from rimsewn.rowchecks import shows_none
from rimsewn.sayings import need_saying
from rimsewn.sewn import Sewing, Unsewn


def kept_or_none(book, partners):
    """The Nesting with any value as its partners, if it keeps the book; otherwise None."""
    nesting = nesting_or_none(partners)
    if nesting is None or len(nesting) != len(book.rim) or not book.keeps(nesting):
        return None
    return nesting


def shows_possible(book, value):
    """Whether any value is a right Sewing or a right Unsewn of the book."""
    need_book(book)
    if isinstance(value, Sewing) and value.__class__.__name__ == "Sewing":
        return kept_or_none(book, value.partners) is not None
    if isinstance(value, Unsewn) and value.__class__.__name__ == "Unsewn":
        return shows_none(book_terms(book, (), False), value.rows)
    return False


def shows_both(book, saying, value):
    """Whether a Both tells a sewing for which the saying holds and one for which it does not."""
    one, other = kept_or_none(book, value.one), kept_or_none(book, value.other)
    if one is None or other is None:
        return False
    return saying.holds(book.rim, one) and not saying.holds(book.rim, other)


def shows_word(book, saying, value):
    """Whether any value is a right Always, Never or Both of the saying."""
    need_book(book)
    need_saying(saying)
    saying.need_named(book.rim)
    need_marks(book.facts + (saying,))
    if isinstance(value, Always) and value.__class__.__name__ == "Always":
        return shows_none(book_terms(book, (~saying,), False), value.rows)
    if isinstance(value, Never) and value.__class__.__name__ == "Never":
        return shows_none(book_terms(book, (saying,), False), value.rows)
    if isinstance(value, Both) and value.__class__.__name__ == "Both":
        return shows_both(book, saying, value)
    return False


def is_spared(book, numbers, partners):
    """Whether any value is the partners of a sewing that keeps the book of just these facts."""
    fewer = Book(book.rim, [book.facts[number] for number in numbers], book.colours)
    return kept_or_none(fewer, partners) is not None


def shows_clash(book, value):
    """Whether any value is a right Clash of the book."""
    need_book(book)
    if not isinstance(value, Clash) or value.__class__.__name__ != "Clash":
        return False
    numbers, spared = value.numbers, value.spared
    if not are_numbers(numbers, len(book)) or not is_listed(spared) or len(spared) != len(numbers):
        return False
    if not all([is_spared(book, others_of(numbers, number), partners) for number, partners in zip(numbers, spared)]):
        return False
    return shows_none(terms_with(book, numbers), value.rows)


def shows_offer(book, sayings, value):
    """Whether any value is an Offer with just the counts and the number of these sayings."""
    need_told(book, sayings)
    need_few(book, sayings)
    if not isinstance(value, Offer) or value.__class__.__name__ != "Offer":
        return False
    return exactly(value.parts, counted(book, sayings).parts)
