"""What gathers at the places of a nesting of a rim."""

from rimsewn.errors import Misfit
from rimsewn.nestings import need_nesting
from rimsewn.rims import need_rim


def need_fit(rim, nesting):
    """Refuses what is no rim, no nesting, or does not fit together."""
    need_rim(rim)
    need_nesting(nesting)
    if len(rim) != len(nesting):
        raise Misfit("edges")


def gathered(rim, nesting):
    """What the places gather, place by place."""
    need_fit(rim, nesting)
    return tuple([sum([rim.amounts[corner] for corner in place]) for place in nesting.places])


def is_sewing(rim, nesting):
    """Whether nowhere more than a full round gathers."""
    return max(gathered(rim, nesting)) <= rim.full


def too_much(rim, nesting):
    """The least rim corner of the first place that gathers more than a full round; None for a sewing."""
    amounts = gathered(rim, nesting)
    for place, amount in zip(nesting.places, amounts):
        if amount > rim.full:
            return place[0]
    return None


def kind_of(rim, nesting):
    """How many places gather 1, 2 and so on, below a full round."""
    amounts = gathered(rim, nesting)
    return tuple([amounts.count(amount) for amount in range(1, rim.full)])


def tips_of(rim, nesting):
    """The indexes of the places that are tips."""
    amounts = gathered(rim, nesting)
    return tuple([index for index, amount in enumerate(amounts) if amount < rim.full])
