"""Stories of desks: played back, compared and merged."""

from rimsewn.checks import is_listed
from rimsewn.desk import Desk, need_desk
from rimsewn.desk_lines import ASKS, refuse_first
from rimsewn.errors import BadDesk, BadLine, SewError


def replay(lines):
    """A new Desk that is told these deed lines."""
    if not is_listed(lines) or not all([isinstance(line, str) for line in lines]):
        raise BadDesk("lines")
    desk = Desk()
    for at, line in enumerate(lines):
        try:
            refuse_first(line, ASKS)
            desk(line)
        except SewError as error:
            raise BadLine(at, error) from None
    return desk


def alike_from_start(one, other):
    """How many lines two stories begin with alike."""
    for at, line in enumerate(one):
        if at == len(other) or other[at] != line:
            return at
    return len(one)


def need_two(one, other):
    """Refuses what is no pair of desks."""
    need_desk(one, "one")
    need_desk(other, "other")


def parting(one, other):
    """How many lines the stories of two Desks begin with alike."""
    need_two(one, other)
    return alike_from_start(one.story, other.story)


def merged(one, other):
    """A new Desk told the story of one, then what other's story has besides; and which lines of that are refused."""
    need_two(one, other)
    desk = replay(one.story)
    refused = []
    for at in range(alike_from_start(one.story, other.story), len(other.story)):
        try:
            desk(other.story[at])
        except SewError:
            refused.append(at)
    return desk, tuple(refused)
