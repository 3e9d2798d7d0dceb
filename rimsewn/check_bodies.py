"""Whether a value shows that two bodies are alike by faces, or not."""

from rimsewn.bodies import need_bodies, need_one_kind
from rimsewn.checks import is_row
from rimsewn.codes import Renaming, Unlike, code_of
from rimsewn.papers import exactly


def goes_to(sides, mate):
    """The side to which a mate goes; a free side has none."""
    return None if mate is None else sides[mate]


def renames(one, other, mirrored, sides):
    """Whether any value is the sides of a renaming of one skin onto another one, mirrored if that is asked."""
    if not is_row(sides) or len(sides) != one.sides or sorted(sides) != list(range(other.sides)):
        return False
    behind = other.backs if mirrored else other.nexts
    return all([sides[one.nexts[side]] == behind[sides[side]]
                and goes_to(sides, one.mates[side]) == other.mates[sides[side]] for side in range(len(sides))])


def parts_by_codes(one, other, mirrored, value):
    """Whether an Unlike tells the two codes, and these are not equal."""
    codes = (code_of(one.mirrored() if mirrored else one), code_of(other))
    return codes[0] != codes[1] and exactly(value.parts, codes)


def shows_alike(one, other, mirrored, value):
    """Whether any value is a right Renaming or a right Unlike of these bodies."""
    need_bodies(one, other)
    need_one_kind(one, other)
    if isinstance(value, Renaming) and value.__class__.__name__ == "Renaming":
        return renames(one.skin, other.skin, mirrored, value.sides)
    if isinstance(value, Unlike) and value.__class__.__name__ == "Unlike":
        return parts_by_codes(one, other, mirrored, value)
    return False
