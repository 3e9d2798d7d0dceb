"""Plain counterparts of sayings, books and closed tables, for the tests alone."""

import itertools

from plain import corner_places, plain_sewings, sums_of


def full_round(kind):
    return 4 if kind == "square" else 6


def named(saying):
    return type(saying).__name__


def plain_holds(saying, rim, row):
    """Whether a saying holds for the nesting with these partners."""
    places, sums = corner_places(row), sums_of(rim.amounts, row)
    if named(saying) == "Not":
        return not plain_holds(saying.saying, rim, row)
    if named(saying) == "Joined":
        return row[saying.one] == saying.other
    if named(saying) == "Meet":
        return any(saying.one in place and saying.other in place for place in places)
    if named(saying) == "Bears":
        total = [total for place, total in zip(places, sums) if saying.corner in place][0]
        return saying.low <= total <= saying.high
    if named(saying) == "Tips":
        return saying.low <= sum(1 for total in sums if total < full_round(rim.kind)) <= saying.high
    return saying.low <= sums.count(saying.amount) <= saying.high


def plain_kept(rim, facts=(), colours=None):
    """The partners of all sewings that keep a book, in order."""
    return [row for row in plain_sewings(rim.amounts, full_round(rim.kind))
            if (colours is None or all(colours[edge] == colours[row[edge]] for edge in range(len(row))))
            and all(plain_holds(fact, rim, row) for fact in facts)]


class Rule:
    """The rule of tables, as the document tells it, for a rim, facts and colours."""

    def __init__(self, rim, facts=(), colours=None):
        self.a, self.size, self.full = rim.amounts, len(rim), full_round(rim.kind)
        self.facts, self.colours = facts, colours
        inner = [fact.saying if named(fact) == "Not" else fact for fact in facts]
        self.marks = sorted({corner for fact in inner for corner in
                             ([fact.one, fact.other] if named(fact) == "Meet" else
                              [fact.corner] if named(fact) == "Bears" else [])})
        self.numbered = any(named(fact) in ("Tips", "Places") for fact in inner)
        self.zero = (0,) * (self.full - 1) if self.numbered else ()

    def stretches(self):
        return [(i, j) for i in range(self.size + 1) for j in range(i + 2, self.size + 1, 2)]

    def lets(self, one, other):
        pair = {one, other}
        for fact in self.facts:
            if named(fact) == "Joined" and len(pair & {fact.one, fact.other}) == 1:
                return False
            if named(fact) == "Not" and named(fact.saying) == "Joined" and pair == {fact.saying.one, fact.saying.other}:
                return False
        return self.colours is None or self.colours[one] == self.colours[other]

    def good(self, total, marks):
        if total > self.full:
            return False
        for fact in self.facts:
            wanted, told = (False, fact.saying) if named(fact) == "Not" else (True, fact)
            if named(told) == "Meet":
                many = len({told.one, told.other} & set(marks))
                if many == (1 if wanted else 2):
                    return False
            if named(told) == "Bears" and told.corner in marks and (told.low <= total <= told.high) != wanted:
                return False
        return True

    def one_more(self, kind, total):
        return tuple(n + (at + 1 == total) for at, n in enumerate(kind))

    def made(self, table, i, j):
        for k in range(i + 2, j + 1, 2):
            if not self.lets(i, k - 1):
                continue
            for (s, m, c), (t, n, d) in itertools.product(table(i + 1, k - 1), table(k, j)):
                ends = {i + 1, k - 1}
                total = s + sum(self.a[corner] for corner in ends)
                if not self.good(total, set(m) | ends & set(self.marks)):
                    continue
                above = t + (self.a[k] if k < j else 0)
                if above <= self.full:
                    marks = tuple(sorted(set(n) | ({k} & set(self.marks) if k < j else set())))
                    yield above, marks, self.one_more(tuple(x + y for x, y in zip(c, d)), total)

    def fits(self, entry):
        s, m, c = entry
        total = s + self.a[0]
        if not self.good(total, set(m) | {0} & set(self.marks)):
            return False
        kind = self.one_more(c, total)
        for fact in self.facts:
            wanted, told = (False, fact.saying) if named(fact) == "Not" else (True, fact)
            if named(told) == "Tips" and (told.low <= sum(kind) <= told.high) != wanted:
                return False
            if named(told) == "Places" and (told.low <= kind[told.amount - 1] <= told.high) != wanted:
                return False
        return True

    def shows_none(self, rows):
        """Whether rows tell a closed table of which no entry fits."""
        if [row[:2] for row in rows] != self.stretches():
            return False
        told = {row[:2]: row[2] for row in rows}

        def table(i, j):
            return told[(i, j)] if i < j else [(0, (), self.zero)]

        for i, j in self.stretches():
            for entry in told[(i, j)]:
                if entry[0] > self.full or len(entry[2]) != len(self.zero):
                    return False
                if any(mark not in self.marks or not i < mark < j for mark in entry[1]):
                    return False
            if not set(self.made(table, i, j)) <= set(told[(i, j)]):
                return False
        return self.size % 2 == 1 or not any(self.fits(entry) for entry in told[(0, self.size)])
