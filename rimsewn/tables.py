"""Tables: what a desk keeps."""

from rimsewn.bodies import Body
from rimsewn.books import Book
from rimsewn.checks import first_twice, is_listed, is_name
from rimsewn.errors import BadDesk, NoName, Twice
from rimsewn.rims import Rim
from rimsewn.sheets import Sheet


def is_pair(value):
    """Whether any value is a pair of a name and a Sheet or a Body."""
    return is_listed(value) and len(value) == 2 and is_name(value[0]) and isinstance(value[1], (Sheet, Body))


def need_things(things):
    """Refuses what is no list of pairs of different names and Sheets or Bodies."""
    if not is_listed(things) or not all([is_pair(pair) for pair in things]):
        raise BadDesk("things")
    twice = first_twice([pair[0] for pair in things])
    if twice is not None:
        raise Twice(twice)


def book_in_hand(things, hand, facts):
    """The Book of the rim of the sheet in hand and these facts, None if nothing is in hand."""
    if hand is None:
        if not is_listed(facts) or len(facts) > 0:
            raise BadDesk("facts")
        return None
    for name, thing in things:
        if name == hand and isinstance(thing, Sheet):
            return Book(Rim.of(thing), facts)
    raise BadDesk("hand")


class Table:
    """Things under names, perhaps a sheet in hand, and facts about its rim."""

    def __init__(self, things=(), hand=None, facts=()):
        need_things(things)
        if hand is not None and not is_name(hand):
            raise BadDesk("hand")
        self.book = book_in_hand(things, hand, facts)
        self.things = tuple([(name, thing) for name, thing in things])
        self.names = tuple([name for name, thing in things])
        self.hand = hand
        self.facts = tuple(facts)

    def thing(self, name):
        """The Sheet or Body that is kept under a name."""
        for own, kept in self.things:
            if is_name(name) and own == name:
                return kept
        raise NoName(name)

    def __eq__(self, other):
        return (isinstance(other, Table) and self.things == other.things
                and self.hand == other.hand and self.facts == other.facts)


def need_table(table):
    """Refuses what is no table."""
    if not isinstance(table, Table):
        raise BadDesk("table")
