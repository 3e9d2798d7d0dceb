"""Reading of texts, word by word."""

from rimsewn.errors import BadText

LONGEST_NUMBER = 60


def words_of(text):
    """The words of a text."""
    if not isinstance(text, str):
        raise BadText(0, 0)
    return text.split(" ")


def natural_of(word):
    """The integer from 0 on that a word writes, None if it writes none."""
    if not (word.isascii() and word.isdigit()) or len(word) > LONGEST_NUMBER:
        return None
    if len(word) > 1 and word[0] == "0":
        return None
    return int(word)


def word_at(words, at, choices):
    """The word at an index, which is one of the choices."""
    # A missing word is told by the number of words, which is just its index.
    if at >= len(words) or words[at] not in choices:
        raise BadText(0, at)
    return words[at]


def number_at(words, at, least, most):
    """The integer at an index, from least to most; None stands for no upper bound."""
    if at >= len(words):
        raise BadText(0, at)
    number = natural_of(words[at])
    if number is None or number < least or (most is not None and number > most):
        raise BadText(0, at)
    return number


def need_end(words, at):
    """Refuses a word too many."""
    if at < len(words):
        raise BadText(0, at)
