"""Sayings, each of which holds or not for a nesting of a rim."""

from rimsewn.checks import is_within
from rimsewn.errors import BadSaying, BadText, NoEdge, Twice
from rimsewn.rims import need_corner
from rimsewn.sums import gathered, need_fit, tips_of
from rimsewn.texts import need_end, number_at, word_at, words_of

MOST_AMOUNT = 5
WORDS = ("joined", "meet", "bears", "tips", "places")


def need_number(value, least, part):
    """Refuses what is no integer from least on."""
    if not is_within(value, least, None):
        raise BadSaying(part)


def need_pair(one, other):
    """Refuses what is no pair of different numbers."""
    need_number(one, 0, "one")
    need_number(other, 0, "other")
    if one == other:
        raise Twice(one)


def need_span(low, high):
    """Refuses what is no span from low to high."""
    need_number(low, 0, "low")
    need_number(high, low, "high")


def place_with(nesting, corner):
    """The index of the place that has this rim corner."""
    return [index for index, place in enumerate(nesting.places) if corner in place][0]


class Saying:
    """The class above all sayings; what is told here of one is told again in each of them."""

    def need_named(self, rim):
        """Refuses what it names where the rim lacks it."""
        raise NotImplementedError("a saying of no class")

    def corners(self):
        """The rim corners that it names, if it is of rim corners."""
        return ()

    def holds(self, rim, nesting):
        """Whether it holds for a nesting of the rim."""
        raise NotImplementedError("a saying of no class")

    def __invert__(self):
        return Not(self)

    def __eq__(self, other):
        return isinstance(other, Saying) and str(self) == str(other)

    def __str__(self):
        return "saying"

    @staticmethod
    def read(text):
        """The saying of a text."""
        return read_saying(words_of(text))


class Joined(Saying):
    """The edges one and other are joined."""

    def __init__(self, one, other):
        need_pair(one, other)
        self.one = one
        self.other = other

    def need_named(self, rim):
        """Refuses the first edge that the rim lacks."""
        for edge in (self.one, self.other):
            if edge >= len(rim):
                raise NoEdge(edge)

    def holds(self, rim, nesting):
        """Whether the edges are joined."""
        need_fit(rim, nesting)
        self.need_named(rim)
        return nesting.partners[self.one] == self.other

    def __invert__(self):
        return Not(self)

    def __eq__(self, other):
        return isinstance(other, Joined) and self.one == other.one and self.other == other.other

    def __str__(self):
        return f"joined {self.one} {self.other}"


class Meet(Saying):
    """The rim corners one and other meet."""

    def __init__(self, one, other):
        need_pair(one, other)
        self.one = one
        self.other = other

    def need_named(self, rim):
        """Refuses the first rim corner that the rim lacks."""
        need_corner(self.one, len(rim))
        need_corner(self.other, len(rim))

    def corners(self):
        """The rim corners that it names."""
        return (self.one, self.other)

    def holds(self, rim, nesting):
        """Whether the rim corners meet."""
        need_fit(rim, nesting)
        self.need_named(rim)
        return nesting.meets(self.one, self.other)

    def __invert__(self):
        return Not(self)

    def __eq__(self, other):
        return isinstance(other, Meet) and self.one == other.one and self.other == other.other

    def __str__(self):
        return f"meet {self.one} {self.other}"


class Bears(Saying):
    """The place of a rim corner gathers from low to high."""

    def __init__(self, corner, low, high):
        need_number(corner, 0, "corner")
        need_span(low, high)
        self.corner = corner
        self.low = low
        self.high = high

    def need_named(self, rim):
        """Refuses the rim corner if the rim lacks it."""
        need_corner(self.corner, len(rim))

    def corners(self):
        """The rim corner that it names."""
        return (self.corner,)

    def holds(self, rim, nesting):
        """Whether the place gathers so much."""
        need_fit(rim, nesting)
        self.need_named(rim)
        return self.low <= gathered(rim, nesting)[place_with(nesting, self.corner)] <= self.high

    def __invert__(self):
        return Not(self)

    def __eq__(self, other):
        return (isinstance(other, Bears) and self.corner == other.corner
                and self.low == other.low and self.high == other.high)

    def __str__(self):
        return f"bears {self.corner} {self.low} {self.high}"


class Tips(Saying):
    """From low to high places are tips."""

    def __init__(self, low, high):
        need_span(low, high)
        self.low = low
        self.high = high

    def need_named(self, rim):
        """It names nothing that a rim could lack."""

    def holds(self, rim, nesting):
        """Whether so many places are tips."""
        return self.low <= len(tips_of(rim, nesting)) <= self.high

    def __invert__(self):
        return Not(self)

    def __eq__(self, other):
        return isinstance(other, Tips) and self.low == other.low and self.high == other.high

    def __str__(self):
        return f"tips {self.low} {self.high}"


class Places(Saying):
    """From low to high places gather just amount."""

    def __init__(self, amount, low, high):
        if not is_within(amount, 1, MOST_AMOUNT):
            raise BadSaying("amount")
        need_span(low, high)
        self.amount = amount
        self.low = low
        self.high = high

    def need_named(self, rim):
        """Refuses an amount that is not below a full round."""
        if self.amount >= rim.full:
            raise BadSaying("amount")

    def holds(self, rim, nesting):
        """Whether so many places gather just the amount."""
        need_fit(rim, nesting)
        self.need_named(rim)
        return self.low <= gathered(rim, nesting).count(self.amount) <= self.high

    def __invert__(self):
        return Not(self)

    def __eq__(self, other):
        return (isinstance(other, Places) and self.amount == other.amount
                and self.low == other.low and self.high == other.high)

    def __str__(self):
        return f"places {self.amount} {self.low} {self.high}"


class Not(Saying):
    """The saying does not hold."""

    def __init__(self, saying):
        if not isinstance(saying, Saying) or isinstance(saying, Not):
            raise BadSaying("saying")
        self.saying = saying

    def need_named(self, rim):
        """Refuses what its saying names where the rim lacks it."""
        self.saying.need_named(rim)

    def corners(self):
        """The rim corners that its saying names."""
        return self.saying.corners()

    def holds(self, rim, nesting):
        """Whether its saying does not hold."""
        return not self.saying.holds(rim, nesting)

    def __invert__(self):
        return self.saying

    def __eq__(self, other):
        return isinstance(other, Not) and self.saying == other.saying

    def __str__(self):
        return f"not {self.saying}"


def need_saying(saying):
    """Refuses what is no saying."""
    if not isinstance(saying, Saying):
        raise BadSaying("saying")


def read_saying(words):
    """The saying that the words tell."""
    if words[0] == "not":
        return Not(read_plain(words, 1))
    return read_plain(words, 0)


def read_plain(words, at):
    """The saying that is no not, told from an index on."""
    word = word_at(words, at, WORDS)
    if word in ("joined", "meet"):
        return read_two(words, at)
    if word == "tips":
        low, high = read_span(words, at + 1)
        return Tips(low, high)
    if word == "bears":
        corner = number_at(words, at + 1, 0, None)
        low, high = read_span(words, at + 2)
        return Bears(corner, low, high)
    amount = number_at(words, at + 1, 1, MOST_AMOUNT)
    low, high = read_span(words, at + 2)
    return Places(amount, low, high)


def read_two(words, at):
    """The saying of two different numbers, told from an index on."""
    one = number_at(words, at + 1, 0, None)
    other = number_at(words, at + 2, 0, None)
    if one == other:
        raise BadText(0, at + 2)
    need_end(words, at + 3)
    return Joined(one, other) if words[at] == "joined" else Meet(one, other)


def read_span(words, at):
    """The last two numbers of a saying, the second one from the first one on."""
    low = number_at(words, at, 0, None)
    high = number_at(words, at + 1, low, None)
    need_end(words, at + 2)
    return low, high
