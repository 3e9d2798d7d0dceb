"""Cuts: trees of seams along which a body can be opened."""

from itertools import combinations

from rimsewn.bodies import need_body
from rimsewn.checks import first_twice, is_row, is_within
from rimsewn.errors import BadCut, TooMany
from rimsewn.trees import degrees, has_ring, leads_of, without_idle

MOST_SEAMS = 12


def need_numbers(seams, many):
    """Refuses what is no list of different numbers of so many seams."""
    if not is_row(seams) or len(seams) == 0 or first_twice(seams) is not None:
        raise BadCut("seams")
    if not all([is_within(seam, 0, many - 1) for seam in seams]):
        raise BadCut("seams")


class Cut:
    """A tree of seams of a body that reaches all its tips."""

    def __init__(self, body, seams):
        need_body(body, "body")
        need_numbers(seams, len(body.skin.seams))
        told = tuple(sorted(seams))
        leads = leads_of(body)
        its = [leads[seam] for seam in told]
        if has_ring(its, len(body.places)):
            raise BadCut("ring")
        found = degrees(its)
        # Without a ring there is one place more than seams for each piece.
        if len(found) != len(told) + 1:
            raise BadCut("pieces")
        if not all([tip in found for tip in body.tips]):
            raise BadCut("tips")
        self.body = body
        self.seams = told
        self.reached = tuple(sorted(list(found)))
        self.ends = tuple([place for place in self.reached if found[place] == 1])

    def __len__(self):
        return len(self.seams)

    def __eq__(self, other):
        return isinstance(other, Cut) and self.body == other.body and self.seams == other.seams


def need_cut(cut):
    """Refuses what is no cut."""
    if not isinstance(cut, Cut):
        raise BadCut("cut")


def idle(cut):
    """The ends of a cut that are no tips, ascending."""
    need_cut(cut)
    return tuple([place for place in cut.ends if place not in cut.body.tips])


def pared(cut):
    """The Cut that is left if seams at idle ends are left out as long as there is one."""
    need_cut(cut)
    leads = leads_of(cut.body)
    left = cut
    # No seam leads between two idle ends, so all of them can be left out at once.
    while idle(left):
        ends = idle(left)
        kept = [seam for seam in left.seams if leads[seam][0] not in ends and leads[seam][1] not in ends]
        left = Cut(left.body, kept)
    return left


def few_seams(body):
    """Refuses a body with too many seams to go through all their sets."""
    if len(body.skin.seams) > MOST_SEAMS:
        raise TooMany("seams", MOST_SEAMS)


def cuts(body):
    """All Cuts without idle ends, by their numbers of seams, then by their seams."""
    need_body(body, "body")
    few_seams(body)
    leads = leads_of(body)
    numbers = list(range(len(leads)))
    found = []
    for many in range(1, len(body.places)):
        for seams in combinations(numbers, many):
            its = [leads[seam] for seam in seams]
            if without_idle(its, body.tips) and not has_ring(its, len(body.places)):
                found.append(Cut(body, seams))
    return tuple(found)
