"""A plain desk: the tables of lines as the document tells them, for the tests alone."""

from plain import raised, random_row
from rimsewn import answers, clashes, codes, fewest, plates, roads, truth
from rimsewn.bodies import Body, sewn
from rimsewn.books import Book
from rimsewn.cuts import Cut
from rimsewn.desk_lines import read_line
from rimsewn.opened import opened
from rimsewn.rims import Rim
from rimsewn.sheets import Sheet

DEEDS = ("put", "take", "sew", "open", "drop", "tell", "strike")
OF_HAND = ("sew", "tell", "strike", "amounts", "facts", "fact", "book", "try", "many", "nth", "kinds", "word", "clash")


class Refused(Exception):
    """A line is refused; its one argument is the error, as `raised` tells it."""


def refuse(*error):
    raise Refused(error)


def call(action, *args):
    """What a function returns; an error is a refusal."""
    error = raised(action, *args)
    if error is not None:
        refuse(*error)
    return action(*args)


class PlainDesk:
    """Names in order, the things under them, the name in hand, facts."""

    def __init__(self):
        self.names, self.things, self.hand, self.facts = [], {}, None, []

    def copy(self):
        other = PlainDesk()
        other.names, other.things, other.hand, other.facts = list(self.names), dict(self.things), self.hand, list(self.facts)
        return other

    def book(self, more=()):
        return call(Book, Rim.of(self.things[self.hand]), self.facts + list(more))

    def wanted(self, name, *kinds):
        if name not in self.things or not isinstance(self.things[name], kinds):
            refuse("NoName", name)
        return self.things[name]

    def free(self, name):
        if name in self.things:
            refuse("Twice", name)

    def keep(self, name, thing):
        self.names.append(name)
        self.things[name] = thing

    def strike_all(self, hand):
        self.hand, self.facts = hand, []

    def line(self, line):
        """The answer, or a refusal; a refused line changes nothing."""
        error = raised(read_line, line)
        if error is not None:
            refuse(*error)
        word, *rest = read_line(line)
        if word in OF_HAND and self.hand is None:
            refuse("Nothing")
        return getattr(self, "do_" + word)(*rest)

    def do_put(self, name, sheet):
        self.free(name)
        self.keep(name, sheet)
        return str(len(self.names))

    def do_take(self, name):
        sheet = self.wanted(name, Sheet)
        self.strike_all(name)
        return str(len(sheet.rim))

    def do_sew(self, name, nesting):
        self.free(name)
        self.keep(name, call(sewn, self.things[self.hand], nesting))
        return str(len(self.names))

    def do_open(self, name, new, *seams):
        body = self.wanted(name, Body)
        self.free(new)
        sheet = opened(call(Cut, body, seams))
        self.keep(new, sheet)
        return str(len(sheet.rim))

    def do_drop(self, name):
        self.wanted(name, Sheet, Body)
        self.names.remove(name)
        del self.things[name]
        if self.hand == name:
            self.strike_all(None)
        return str(len(self.names))

    def do_tell(self, saying):
        self.book([saying])
        self.facts.append(saying)
        return str(len(self.facts) - 1)

    def do_strike(self, *numbers):
        for number in numbers:
            if number >= len(self.facts):
                refuse("NoFact", number)
        for at, number in enumerate(numbers):
            if number in numbers[:at]:
                refuse("Twice", number)
        self.facts = [fact for number, fact in enumerate(self.facts) if number not in numbers]
        return str(len(self.facts))

    def do_names(self):
        return " ".join(self.names) or "-"

    def do_hand(self):
        return self.hand or "-"

    def do_show(self, name):
        return str(self.wanted(name, Sheet, Body))

    def do_amounts(self):
        return " ".join(map(str, self.things[self.hand].amounts))

    def do_facts(self):
        return str(len(self.facts))

    def do_fact(self, number):
        if number >= len(self.facts):
            refuse("NoFact", number)
        return str(self.facts[number])

    def do_book(self):
        return answers.possible(self.book()).word

    def do_try(self, saying):
        return answers.possible(self.book([saying])).word

    def do_many(self):
        return str(answers.many(self.book()))

    def do_nth(self, number):
        return str(call(answers.nth, self.book(), number))

    def do_kinds(self):
        return " / ".join(" ".join(map(str, kind + (many,))) for kind, many in answers.kinds(self.book())) or "-"

    def do_word(self, saying):
        return call(answers.word_of, self.book(), saying).word

    def do_clash(self):
        paper = clashes.clash(self.book())
        return " ".join(map(str, paper.numbers)) or "-" if paper is not None else "-"

    def do_tally(self, name):
        return " ".join(map(str, self.wanted(name, Body).tally))

    def do_alike(self, name, other):
        one, its = self.wanted(name, Body), self.wanted(other, Body)
        if call(codes.alike_by_faces, one, its):
            return "faces"
        return "truth" if truth.in_truth(one, its) else "unlike"

    def do_road(self, name, one, other):
        body = self.wanted(name, Body)
        paper = call(roads.road, body, one, other)
        return str(roads.squares(body)[one][other]) if paper else None

    def do_plate(self, name):
        return "plate" if plates.plate(self.wanted(name, Body)) else "noplate"

    def do_fewest(self, name):
        return str(len(call(fewest.fewest_cut, self.wanted(name, Body)).seams))


def lines_for(desk, draw):
    """A line that may well stand, drawn for what a plain desk keeps."""
    names = desk.names + ["a", "b", "c", "d", "zz"]
    hand = desk.things.get(desk.hand)
    edges = len(hand.rim) if hand else 6
    edge = lambda: str(draw.randrange(edges + (draw.random() < 0.1)))
    saying = draw.choice([f"joined {edge()} {edge()}", f"meet {edge()} {edge()}", f"bears {edge()} 1 {draw.randrange(1, 7)}", "tips 0 4", "tips 3 9",
                          f"places {draw.randrange(1, 6)} 0 {draw.randrange(4)}"])
    saying = draw.choice(["", "", "not "]) + saying
    bodies = [name for name in desk.names if isinstance(desk.things[name], Body)]
    if not bodies or draw.random() < 0.15:
        bodies = names
    closed = draw.choice(bodies)
    body = desk.things.get(closed)
    if isinstance(body, Body):
        # As many as a tree over all places has; one beyond the last seam, too.
        most = len(body.places) - 1
        seams = draw.sample(range(len(body.skin.seams) + (draw.random() < 0.05)), draw.choice([most, most, draw.randrange(1, most + 1)]))
    else:
        seams = [0, 1]
    numbers = " ".join(str(seam) for seam in seams)
    facts = " ".join(str(draw.randrange(len(desk.facts) + 1)) for _ in range(draw.randrange(1, 3)))
    sheet = draw.choice(["square 1 :", "square 2 : 1 7", "square 3 : 1 7 / 6 8", "triangle 2 : 0 3", "triangle 4 : 0 3 / 1 6 / 2 9",
                         "square 4 : 1 7 / 6 8 / 11 13"])
    row = random_row(edges if edges % 2 == 0 and draw.random() < 0.9 else 4, draw)
    nesting = " ".join(f"{one}-{other}" for one, other in enumerate(row) if one < other)
    name, other, new = draw.choice(names), draw.choice(names), draw.choice(names + ["n" + str(draw.randrange(20))] * 4)
    return draw.choice([
        f"put {new} {sheet}", f"put {new} {sheet}", f"take {name}", f"sew {new} {nesting}", f"sew {new} {nesting}",
        f"open {closed} {new} {numbers}", f"open {closed} {new} {numbers}", f"drop {name}",
        f"tell {saying}", f"tell {saying}", f"tell {saying}", f"strike {facts}", "names", "hand", f"show {name}", "amounts", "facts",
        f"fact {draw.randrange(4)}", "book", f"try {saying}", "many", f"nth {draw.randrange(3)}", "kinds", f"word {saying}", "clash", f"tally {closed}",
        f"alike {closed} {draw.choice(bodies)}", f"alike {name} {other}", f"road {closed} {draw.randrange(5)} {draw.randrange(5)}", f"plate {closed}",
        f"fewest {closed}", f"tally {name}", "many 1", "take", "hand a"])
