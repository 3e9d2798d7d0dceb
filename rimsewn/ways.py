"""Ways from sewing to sewing by single exchanges, and the classes that they make."""

from rimsewn.errors import BadNesting
from rimsewn.exchanges import sewn_exchanges
from rimsewn.nestings import Nesting
from rimsewn.papers import Denial, Paper
from rimsewn.rims import need_rim
from rimsewn.sewn import sewings
from rimsewn.sums import is_sewing


class Way(Paper):
    """The partners of the sewings of a way, in its order."""

    def __init__(self, rows):
        Paper.__init__(self, "way", rows)
        self.rows = self.parts[0]


class Parted(Denial):
    """The partners of sewings from which no exchange leads to another sewing, ascending."""

    def __init__(self, rows):
        Denial.__init__(self, "parted", rows)
        self.rows = self.parts[0]


def need_sewing(rim, nesting, part):
    """Refuses what is no sewing of the rim, with the name of the parameter."""
    if not isinstance(nesting, Nesting) or len(nesting) != len(rim) or not is_sewing(rim, nesting):
        raise BadNesting(part)


def need_ends(rim, one, other):
    """Refuses what is no rim with two sewings of it."""
    need_rim(rim)
    need_sewing(rim, one, "one")
    need_sewing(rim, other, "other")


def reached_from(rim, nesting):
    """For the partners of each sewing of the class of a sewing those of the one ahead of it, nearest ones first."""
    ahead = {nesting.partners: None}
    waiting = [nesting]
    at = 0
    while at < len(waiting):
        for other in sewn_exchanges(rim, waiting[at]):
            if other.partners not in ahead:
                ahead[other.partners] = waiting[at].partners
                waiting.append(other)
        at += 1
    return ahead


def way(rim, one, other):
    """A Way of as few rows as can be from the one to the other; a Parted if there is none."""
    need_ends(rim, one, other)
    ahead = reached_from(rim, one)
    if other.partners not in ahead:
        return Parted(sorted(list(ahead)))
    rows = []
    row = other.partners
    while row is not None:
        rows.append(row)
        row = ahead[row]
    return Way(rows[::-1])


def classes(rim):
    """The classes, each the partners of its sewings ascending, in the order of their first ones."""
    need_rim(rim)
    found = []
    seen = set()
    for nesting in sewings(rim):
        if nesting.partners not in seen:
            rows = sorted(list(reached_from(rim, nesting)))
            found.append(tuple(rows))
            for row in rows:
                seen.add(row)
    return tuple(found)
