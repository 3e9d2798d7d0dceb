"""Books: a rim, facts about its sewings, and perhaps colours of its edges."""

from rimsewn.checks import first_twice, is_listed, is_row, is_within
from rimsewn.errors import BadBook, BadSaying, NoFact, TooMany, Twice
from rimsewn.rims import need_rim
from rimsewn.sayings import Saying, need_saying
from rimsewn.sums import is_sewing
from rimsewn.terms import marks_of

MOST_FACTS = 8
MOST_MARKS = 4


def need_sayings(sayings, part):
    """Refuses what is no list of sayings."""
    if not is_listed(sayings) or not all([isinstance(saying, Saying) for saying in sayings]):
        raise BadSaying(part)


def need_marks(facts):
    """Refuses facts of rim corners that name too many."""
    if len(marks_of(facts)) > MOST_MARKS:
        raise TooMany("marks", MOST_MARKS)


def same_colours(colours, nesting):
    """Whether each edge is joined to one of the same colour."""
    return colours is None or all([colours[one] == colours[other] for one, other in nesting.pairs])


class Book:
    """A rim, facts, and perhaps colours."""

    def __init__(self, rim, facts=(), colours=None):
        need_rim(rim)
        need_sayings(facts, "facts")
        for fact in facts:
            fact.need_named(rim)
        if colours is not None and (not is_row(colours) or len(colours) != len(rim)):
            raise BadBook("colours")
        if len(facts) > MOST_FACTS:
            raise TooMany("facts", MOST_FACTS)
        need_marks(facts)
        self.rim = rim
        self.facts = tuple(facts)
        self.colours = None if colours is None else tuple(colours)
        self.marks = marks_of(facts)

    def __len__(self):
        return len(self.facts)

    def with_fact(self, saying):
        """The Book with this fact behind."""
        need_saying(saying)
        return Book(self.rim, self.facts + (saying,), self.colours)

    def without(self, numbers):
        """The Book without the facts with these numbers."""
        if not is_listed(numbers):
            raise BadBook("numbers")
        for number in numbers:
            if not is_within(number, 0, len(self) - 1):
                raise NoFact(number)
        twice = first_twice(numbers)
        if twice is not None:
            raise Twice(twice)
        kept = [fact for number, fact in enumerate(self.facts) if number not in numbers]
        return Book(self.rim, kept, self.colours)

    def keeps(self, nesting):
        """Whether the nesting is a sewing that keeps the book."""
        if not is_sewing(self.rim, nesting) or not same_colours(self.colours, nesting):
            return False
        return all([fact.holds(self.rim, nesting) for fact in self.facts])

    def __eq__(self, other):
        return (isinstance(other, Book) and self.rim == other.rim
                and self.facts == other.facts and self.colours == other.colours)


def need_book(book):
    """Refuses what is no book."""
    if not isinstance(book, Book):
        raise BadBook("book")
