"""Terms: what a rim, facts and colours ask of pairs, places and numbers of places."""

from rimsewn.sayings import Bears, Joined, Meet, Not, Places, Tips


def marks_of(facts):
    """The rim corners that the facts of rim corners name, ascending."""
    return tuple(sorted(set([corner for fact in facts for corner in fact.corners()])))


def plain(facts):
    """For each fact whether it is no not, and the saying without its not."""
    return [(False, fact.saying) if isinstance(fact, Not) else (True, fact) for fact in facts]


def counts_told(facts):
    """Of the facts of numbers: whether it is no not, the amount, 0 for tips, low and high."""
    told = []
    for wanted, saying in plain(facts):
        if isinstance(saying, Tips):
            told.append((wanted, 0, saying.low, saying.high))
        if isinstance(saying, Places):
            told.append((wanted, saying.amount, saying.low, saying.high))
    return told


class Terms:
    """What a rim, facts and colours ask; with numbers if all kinds are told apart."""

    def __init__(self, rim, facts, colours, with_numbers):
        self.amounts = rim.amounts
        self.full = rim.full
        self.marks = marks_of(facts)
        self.colours = colours
        self.joins = [(wanted, (saying.one, saying.other)) for wanted, saying in plain(facts)
                      if isinstance(saying, Joined)]
        self.meetings = [(wanted, saying.one, saying.other) for wanted, saying in plain(facts)
                         if isinstance(saying, Meet)]
        self.loads = [(wanted, saying.corner, saying.low, saying.high) for wanted, saying in plain(facts)
                      if isinstance(saying, Bears)]
        self.quotas = counts_told(facts)
        self.numbered = with_numbers or len(self.quotas) > 0

    def no_places(self):
        """The kind of no place at all."""
        return (0,) * (self.full - 1) if self.numbered else ()

    def lets(self, one, other):
        """Whether two edges are let."""
        if self.colours is not None and self.colours[one] != self.colours[other]:
            return False
        for wanted, pair in self.joins:
            if wanted and (one in pair) != (other in pair):
                return False
            if not wanted and one in pair and other in pair:
                return False
        return True

    def is_good(self, total, marks):
        """Whether a place that gathers total, with these marks, is good."""
        if total > self.full:
            return False
        for wanted, one, other in self.meetings:
            if wanted and (one in marks) != (other in marks):
                return False
            if not wanted and one in marks and other in marks:
                return False
        return all([(low <= total <= high) == wanted for wanted, corner, low, high in self.loads
                    if corner in marks])

    def with_place(self, kind, total):
        """The kind with one more place, which gathers total."""
        if kind == () or total >= self.full:
            return kind
        return kind[:total - 1] + (kind[total - 1] + 1,) + kind[total:]

    def counts_well(self, kind):
        """Whether each fact of numbers holds for the kind of a whole nesting."""
        for wanted, amount, low, high in self.quotas:
            many = sum(kind) if amount == 0 else kind[amount - 1]
            if (low <= many <= high) != wanted:
                return False
        return True

    def marked(self, corners):
        """Those of the rim corners that are marks."""
        return tuple([corner for corner in corners if corner in self.marks])
