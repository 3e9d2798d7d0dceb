"""Cuts of the fewest seams, and tables of lengths that show it."""

from rimsewn.bodies import need_body
from rimsewn.errors import TooMany
from rimsewn.papers import Paper
from rimsewn.trees import leads_of

MOST_TIPS = 8


class Fewest(Paper):
    """The seams of a cut than which none has fewer, and rows of a fair table of lengths."""

    def __init__(self, seams, rows):
        Paper.__init__(self, "fewest", seams, rows)
        self.seams = self.parts[0]
        self.rows = self.parts[1]


def need_few_tips(body):
    """Refuses a body with too many tips."""
    need_body(body, "body")
    if len(body.tips) > MOST_TIPS:
        raise TooMany("tips", MOST_TIPS)


def neighbours(body):
    """For each place the pairs of a place to which a seam leads from it, and the number of the seam."""
    found = [[] for _ in body.places]
    for seam, pair in enumerate(leads_of(body)):
        one, other = pair
        found[one].append((other, seam))
        found[other].append((one, seam))
    return found


def halves_of(chosen):
    """All ways to part a set of tips in two, each told by the numbers of both parts."""
    found = []
    part = (chosen - 1) & chosen
    while part > chosen - part:
        found.append((part, chosen - part))
        part = (part - 1) & chosen
    return found


def levelled(lengths, beside):
    """The lengths, each lessened to one more than at a place beside it."""
    row = list(lengths)
    for length in range(max(row)):
        for place in range(len(row)):
            if row[place] == length:
                for other, _ in beside[place]:
                    row[other] = min(row[other], length + 1)
    return tuple(row)


def lengths_of(body):
    """The least numbers of seams of trees that reach a place and a set of tips: a row for each set."""
    beside = neighbours(body)
    many = len(body.places)
    rows = [(0,) * many]
    for chosen in range(1, 1 << len(body.tips)):
        parts = halves_of(chosen)
        if parts:
            row = [min([rows[one][place] + rows[other][place] for one, other in parts]) for place in range(many)]
        else:
            # A set of one tip: no place is farther from it than there are places.
            tip = body.tips[chosen.bit_length() - 1]
            row = [0 if place == tip else many for place in range(many)]
        rows.append(levelled(row, beside))
    return tuple(rows)


def seams_by(body, rows):
    """The seams of a tree that reaches all tips with as many seams as the last row tells at a tip."""
    beside = neighbours(body)
    found = []
    waiting = [(len(rows) - 1, body.tips[0])]
    while waiting:
        chosen, place = waiting.pop()
        length = rows[chosen][place]
        if length == 0:
            continue
        parts = [(one, other) for one, other in halves_of(chosen) if rows[one][place] + rows[other][place] == length]
        if parts:
            waiting.extend([(part, place) for part in parts[0]])
        else:
            nearer = [(other, seam) for other, seam in beside[place] if rows[chosen][other] == length - 1]
            found.append(nearer[0][1])
            waiting.append((chosen, nearer[0][0]))
    # With as few seams as there can be none of them is found twice.
    return tuple(sorted(found))


def fewest_cut(body):
    """A Fewest of a body."""
    need_few_tips(body)
    rows = lengths_of(body)
    return Fewest(seams_by(body, rows), rows)
