"""Ask lines, answered by what a table keeps."""

from rimsewn.answers import kinds, many, nth, possible, word_of
from rimsewn.checks import is_within
from rimsewn.clashes import clash
from rimsewn.codes import alike_by_faces
from rimsewn.desk_deeds import body_under, need_hand
from rimsewn.desk_lines import DEEDS, read_line, refuse_first
from rimsewn.errors import NoFact
from rimsewn.fewest import fewest_cut
from rimsewn.plates import plate
from rimsewn.roads import road
from rimsewn.tables import need_table
from rimsewn.truth import in_truth
from rimsewn.vectors import length_of

NONE = "-"


def spaced(values):
    """Words and numbers with single blanks between."""
    return " ".join([str(value) for value in values]) if len(values) > 0 else NONE


def answer_names(table, told):
    """The names of all things."""
    return spaced(table.names)


def answer_hand(table, told):
    """The name of the sheet in hand."""
    return NONE if table.hand is None else table.hand


def answer_show(table, told):
    """The text of a thing."""
    return str(table.thing(told[1]))


def answer_amounts(table, told):
    """The amounts of the sheet in hand."""
    return spaced(table.book.rim.amounts)


def answer_facts(table, told):
    """How many facts there are."""
    return str(len(table.facts))


def answer_fact(table, told):
    """The text of a fact."""
    number = told[1]
    if not is_within(number, 0, len(table.facts) - 1):
        raise NoFact(number)
    return str(table.facts[number])


def answer_book(table, told):
    """Whether the book is possible."""
    return possible(table.book).word


def answer_try(table, told):
    """Whether the book would be possible with a fact more."""
    return possible(table.book.with_fact(told[1])).word


def answer_many(table, told):
    """How many sewings keep the book."""
    return str(many(table.book))


def answer_nth(table, told):
    """The sewing with a number."""
    return str(nth(table.book, told[1]))


def answer_kinds(table, told):
    """The kinds of sewings, each with how many there are."""
    pairs = kinds(table.book)
    return " / ".join([spaced(kind + (number,)) for kind, number in pairs]) if len(pairs) > 0 else NONE


def answer_word(table, told):
    """What is sure of a saying."""
    return word_of(table.book, told[1]).word


def answer_clash(table, told):
    """The facts that clash."""
    paper = clash(table.book)
    return NONE if paper is None else spaced(paper.numbers)


def answer_tally(table, told):
    """The tally of a body."""
    return spaced(body_under(table, told[1]).tally)


def answer_alike(table, told):
    """How two bodies are alike."""
    one = body_under(table, told[1])
    other = body_under(table, told[2])
    if alike_by_faces(one, other):
        return "faces"
    return "truth" if in_truth(one, other) else "unlike"


def answer_road(table, told):
    """The square of a road between two places of a body."""
    body = body_under(table, told[1])
    paper = road(body, told[2], told[3])
    return str(length_of(body.kind, (paper.a, paper.b)))


def answer_plate(table, told):
    """Whether a body is a plate."""
    return plate(body_under(table, told[1])).word


def answer_fewest(table, told):
    """How many seams a cut of the fewest seams has."""
    return str(len(fewest_cut(body_under(table, told[1])).seams))


OF_HAND = ("amounts", "facts", "fact", "book", "try", "many", "nth", "kinds", "word", "clash")
ANSWERS = {
    "names": answer_names, "hand": answer_hand, "show": answer_show, "amounts": answer_amounts,
    "facts": answer_facts, "fact": answer_fact, "book": answer_book, "try": answer_try, "many": answer_many,
    "nth": answer_nth, "kinds": answer_kinds, "word": answer_word, "clash": answer_clash, "tally": answer_tally,
    "alike": answer_alike, "road": answer_road, "plate": answer_plate, "fewest": answer_fewest,
}


def answer_of(table, line):
    """The answer to an ask line."""
    need_table(table)
    refuse_first(line, DEEDS)
    told = read_line(line)
    if told[0] in OF_HAND:
        need_hand(table)
    action = ANSWERS[told[0]]
    return action(table, told)
