"""Whether a value shows that two bodies are alike by faces, or not."""

from rimsewn.bodies import need_bodies, need_one_kind
from rimsewn.checks import is_row
from rimsewn.codes import Renaming, Unlike, code_of
from rimsewn.papers import exactly


def renames(one, other, mirrored, sides):
    """Whether any value is the sides of a renaming of one onto other, mirrored if that is asked."""
    if not is_row(sides) or len(sides) != one.skin.sides or sorted(sides) != list(range(other.skin.sides)):
        return False
    behind = other.skin.backs if mirrored else other.skin.nexts
    return all([sides[one.skin.nexts[side]] == behind[sides[side]]
                and sides[one.skin.mates[side]] == other.skin.mates[sides[side]] for side in range(len(sides))])


def parts_by_codes(one, other, mirrored, value):
    """Whether an Unlike tells the two codes, and these are not equal."""
    codes = (code_of(one.mirrored() if mirrored else one), code_of(other))
    return codes[0] != codes[1] and exactly(value.parts, codes)


def shows_alike(one, other, mirrored, value):
    """Whether any value is a right Renaming or a right Unlike of these bodies."""
    need_bodies(one, other)
    need_one_kind(one, other)
    if isinstance(value, Renaming) and value.__class__.__name__ == "Renaming":
        return renames(one, other, mirrored, value.sides)
    if isinstance(value, Unlike) and value.__class__.__name__ == "Unlike":
        return parts_by_codes(one, other, mirrored, value)
    return False
