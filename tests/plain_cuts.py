"""Plain counterparts of rings, trees, cuts, hanging sets and tables of lengths, for the tests alone."""

import itertools

from plain import joined


def plain_leads(body):
    """For each seam the places where its two sides begin."""
    def place(corner):
        return next(index for index, corners in enumerate(body.places) if corner in corners)

    return [(place(one), place(other)) for one, other in body.skin.seams]


def connected(leads, many):
    """The groups of points that these leads connect."""
    return joined(leads, many)


def plain_ring(leads, many):
    """Whether one of the leads is between points that the others connect."""
    for at, (one, other) in enumerate(leads):
        groups = connected(leads[:at] + leads[at + 1:], many)
        if any(one in group and other in group for group in groups):
            return True
    return False


def plain_reached(leads):
    return sorted({place for pair in leads for place in pair})


def plain_refusal_of_cut(body, seams):
    """What Cut should raise for different numbers of seams, one or more; None for a cut."""
    leads = [plain_leads(body)[seam] for seam in seams]
    if plain_ring(leads, len(body.places)):
        return ("BadCut", "ring")
    reached = plain_reached(leads)
    if not any(set(reached) <= set(group) for group in connected(leads, len(body.places))):
        return ("BadCut", "pieces")
    if not set(body.tips) <= set(reached):
        return ("BadCut", "tips")
    return None


def plain_ends(body, seams):
    """The places to which just one of the seams leads."""
    leads = [plain_leads(body)[seam] for seam in seams]
    return [place for place in plain_reached(leads) if sum(place in pair for pair in leads) == 1]


def sets_of_seams(body):
    """All sets of one seam or more, the fewer first, then as tuples are ordered."""
    numbers = range(len(body.skin.seams))
    for many in range(1, len(numbers) + 1):
        yield from itertools.combinations(numbers, many)


def plain_cuts(body):
    """The seams of all cuts."""
    return [seams for seams in sets_of_seams(body) if len(seams) < len(body.places) and plain_refusal_of_cut(body, seams) is None]


def hangs(body, seams):
    """Whether a set of seams hangs the faces."""
    leads = [tuple(side // body.turn for side in body.skin.seams[seam]) for seam in seams]
    return len(seams) == body.faces - 1 and len(connected(leads, body.faces)) == 1


def plain_lengths(body):
    """The least numbers of seams of trees that reach a place and the tips of a set, by all trees of a small body."""
    leads = plain_leads(body)
    trees = []
    for seams in sets_of_seams(body):
        its = [leads[seam] for seam in seams]
        reached = plain_reached(its)
        if len(reached) == len(its) + 1 and not plain_ring(its, len(body.places)):
            trees.append((len(its), set(reached)))
    rows = [[0] * len(body.places)]
    for number in range(1, 2 ** len(body.tips)):
        wanted = {tip for k, tip in enumerate(body.tips) if number >> k & 1}
        rows.append([0 if wanted == {place} else min(many for many, reached in trees if wanted | {place} <= reached)
                     for place in range(len(body.places))])
    return rows


def plain_fair(body, rows):
    """Whether a table of lengths, of so many integers, is fair, by the words of the document."""
    leads = plain_leads(body)
    for number in range(1, len(rows)):
        for place, length in enumerate(rows[number]):
            if place in body.tips and number == 2 ** body.tips.index(place) and length > 0:
                return False
            for one, other in leads:
                if place in (one, other) and length > rows[number][one + other - place] + 1:
                    return False
            for part in range(1, number):
                if part & number == part and length > rows[part][place] + rows[number - part][place]:
                    return False
    return True
