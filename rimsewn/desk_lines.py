"""Lines that a desk is told, read word by word."""

from rimsewn.checks import is_name
from rimsewn.errors import BadText
from rimsewn.nestings import Nesting
from rimsewn.sayings import Saying
from rimsewn.sheets import Sheet
from rimsewn.texts import need_end, number_at, word_at, words_of

DEEDS = ("put", "take", "sew", "open", "drop", "tell", "strike")
ASKS = ("names", "hand", "show", "amounts", "facts", "fact", "book", "try", "many", "nth", "kinds", "word",
        "clash", "tally", "alike", "road", "plate", "fewest")
# What stands behind the first word of a line; what goes to its end comes last.
SHAPES = {
    "put": ("name", "sheet"), "take": ("name",), "sew": ("name", "nesting"), "open": ("name", "name", "numbers"),
    "drop": ("name",), "tell": ("saying",), "strike": ("numbers",),
    "names": (), "hand": (), "show": ("name",), "amounts": (), "facts": (), "fact": ("number",), "book": (),
    "try": ("saying",), "many": (), "nth": ("number",), "kinds": (), "word": ("saying",), "clash": (),
    "tally": ("name",), "alike": ("name", "name"), "road": ("name", "number", "number"), "plate": ("name",),
    "fewest": ("name",),
}


def name_at(words, at):
    """The name at an index."""
    if at >= len(words) or not is_name(words[at]):
        raise BadText(0, at)
    return words[at]


def numbers_from(words, at):
    """The integers from an index to the end of the line, one or more."""
    return [number_at(words, place, 0, None) for place in range(at, max(len(words), at + 1))]


def value_of(shape, text):
    """The value of a text."""
    if shape == "sheet":
        return Sheet.read(text)
    return Nesting.read(text) if shape == "nesting" else Saying.read(text)


def value_from(words, at, shape):
    """The value of the text from an index to the end of the line."""
    try:
        return value_of(shape, " ".join(words[at:]))
    except BadText as error:
        raise BadText(0, at + error.word) from None


def read_part(words, at, shape):
    """What stands in the line from an index on: one value, or all integers to its end."""
    if shape == "name":
        return [name_at(words, at)]
    if shape == "number":
        return [number_at(words, at, 0, None)]
    if shape == "numbers":
        return numbers_from(words, at)
    return [value_from(words, at, shape)]


def read_line(line):
    """The first word of a line, and what the others stand for."""
    words = words_of(line)
    first = word_at(words, 0, DEEDS + ASKS)
    told = [first]
    shapes = SHAPES[first]
    # All but the last of them are one word each, so as many words are read as values told.
    for shape in shapes:
        told.extend(read_part(words, len(told), shape))
    if shapes == () or shapes[-1] in ("name", "number"):
        need_end(words, len(shapes) + 1)
    return tuple(told)


def refuse_first(line, firsts):
    """Refuses a line whose first word is one of these, whatever follows."""
    if words_of(line)[0] in firsts:
        raise BadText(0, 0)
