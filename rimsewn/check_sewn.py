"""Whether a value shows what can be sewn."""

from rimsewn.errors import BadNesting, Crossing
from rimsewn.nestings import Nesting
from rimsewn.rims import need_rim
from rimsewn.rowchecks import shows_none
from rimsewn.sewn import Sewing, Unsewn
from rimsewn.sums import is_sewing
from rimsewn.terms import Terms


def nesting_or_none(partners):
    """The Nesting with any value as its partners; None if there is none."""
    try:
        return Nesting(partners)
    except (BadNesting, Crossing):
        return None


def tells_sewing(rim, partners):
    """Whether any value is the partners of a sewing of the rim."""
    nesting = nesting_or_none(partners)
    return nesting is not None and len(nesting) == len(rim) and is_sewing(rim, nesting)


def shows_sewn(rim, value):
    """Whether any value is a right Sewing or a right Unsewn of the rim."""
    need_rim(rim)
    if isinstance(value, Sewing) and value.__class__.__name__ == "Sewing":
        return tells_sewing(rim, value.partners)
    if isinstance(value, Unsewn) and value.__class__.__name__ == "Unsewn":
        return shows_none(Terms(rim, (), None, False), value.rows)
    return False
