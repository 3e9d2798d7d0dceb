"""Whether a value shows that bodies are alike in truth, or not."""

from rimsewn.bodies import need_bodies, need_one_kind
from rimsewn.checks import is_listed
from rimsewn.failings import is_failing
from rimsewn.overlays import Apart, is_overlay, is_right
from rimsewn.papers import exactly
from rimsewn.starts import is_tip_walk, starts_of
from rimsewn.truth import UNLIKE_FACES


def is_apart(one, other, mirrored, value):
    """Whether an Apart is right."""
    if not is_tip_walk(one, value.corner, value.vector) or not is_listed(value.failings):
        return False
    if one.faces != other.faces:
        return exactly(value.failings, (UNLIKE_FACES,))
    walk = (value.corner, value.vector)
    starts = starts_of(one, other, walk)
    if len(starts) != len(value.failings):
        return False
    return all([is_failing(one, other, mirrored, walk, start, failing)
                for start, failing in zip(starts, value.failings)])


def shows_truth(one, other, mirrored, value):
    """Whether any value is a right Overlay or a right Apart of these bodies."""
    need_bodies(one, other)
    need_one_kind(one, other)
    if is_overlay(value):
        return is_right(one, other, value, mirrored)
    if isinstance(value, Apart) and value.__class__.__name__ == "Apart":
        return is_apart(one, other, mirrored, value)
    return False
