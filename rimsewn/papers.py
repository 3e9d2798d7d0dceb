"""Papers, which tell an answer and what shows it, and denials."""

from rimsewn.checks import is_integer, is_listed


def fixed(value):
    """The value with each list in it as a tuple, all the way in."""
    if is_listed(value):
        return tuple([fixed(item) for item in value])
    return value


def exactly(one, other):
    """Whether two values tell the same integers and words; True and False stand for no number."""
    if is_listed(one) and is_listed(other):
        return len(one) == len(other) and all([exactly(own, its) for own, its in zip(one, other)])
    if is_integer(one) and is_integer(other):
        return one == other
    return isinstance(one, str) and isinstance(other, str) and one == other


def same_paper(one, other):
    """Whether any value equals a paper."""
    if not isinstance(other, Paper) or one.__class__.__name__ != other.__class__.__name__:
        return False
    return one.word == other.word and one.parts == other.parts


class Paper:
    """A paper with a word and parts; it is true."""

    def __init__(self, word, *parts):
        self.word = word
        self.parts = fixed(parts)

    def __eq__(self, other):
        return same_paper(self, other)

    def __bool__(self):
        return True


class Denial(Paper):
    """A paper that says no; it is false."""

    def __init__(self, word, *parts):
        self.word = word
        self.parts = fixed(parts)

    def __eq__(self, other):
        return same_paper(self, other)

    def __bool__(self):
        return False
