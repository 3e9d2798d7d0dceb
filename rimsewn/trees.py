"""Trees of seams: between which places seams lead, which they reach, and whether they close a ring."""


def leads_of(body):
    """For each seam the two places where its sides begin."""
    return tuple([(body.place_at[one], body.place_at[other]) for one, other in body.skin.seams])


def degrees(leads):
    """For each place that is reached how many of these seams lead to it."""
    found = {}
    for pair in leads:
        for place in pair:
            found[place] = found.get(place, 0) + 1
    return found


def has_ring(leads, places):
    """Whether one of these seams leads between places that the others connect."""
    group_of = list(range(places))
    for one, other in leads:
        own, its = group_of[one], group_of[other]
        if own == its:
            return True
        group_of = [own if group == its else group for group in group_of]
    return False


def without_idle(leads, tips):
    """Whether seams without a ring are a tree that reaches all tips and ends in tips alone."""
    found = degrees(leads)
    # Without a ring there is one place more than seams for each piece.
    if len(found) != len(leads) + 1 or not all([tip in found for tip in tips]):
        return False
    return all([many > 1 or place in tips for place, many in found.items()])
