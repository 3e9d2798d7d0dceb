"""Whether a value shows that a body is a plate, a box, or neither."""

from rimsewn.bodies import need_body
from rimsewn.boxes import box
from rimsewn.check_truth import is_apart
from rimsewn.checks import is_listed
from rimsewn.failings import failing_of, is_failing
from rimsewn.named import Boxed, Other, boxes_like
from rimsewn.overlays import Apart, Overlay, is_overlay, is_right
from rimsewn.papers import exactly
from rimsewn.plates import NoPlate, Plate, tip_moved
from rimsewn.starts import is_tip_walk, own_starts


def is_plate(body, value):
    """Whether any value is a right Plate of a body."""
    if not isinstance(value, Plate) or value.__class__.__name__ != "Plate" or not is_overlay(value.overlay):
        return False
    return is_right(body, body, value.overlay, True) and tip_moved(body, value.overlay) is None


def is_kept(body, walk, start, value):
    """Whether a value tells the least tip that comes elsewhere by the overlay that a start makes."""
    if not is_listed(value) or not exactly(value[:1], ("kept",)):
        return False
    if failing_of(body, body, True, walk, start) is not None:
        return False
    tip = tip_moved(body, Overlay(walk[0], walk[1], start[0], start[1]))
    return exactly(value, ("kept", tip))


def is_no_plate(body, value):
    """Whether any value is a right NoPlate of a body."""
    if not isinstance(value, NoPlate) or value.__class__.__name__ != "NoPlate":
        return False
    if not is_tip_walk(body, value.corner, value.vector) or not is_listed(value.failings):
        return False
    walk = (value.corner, value.vector)
    starts = own_starts(body, walk)
    if len(starts) != len(value.failings):
        return False
    return all([is_failing(body, body, True, walk, start, failing) or is_kept(body, walk, start, failing)
                for start, failing in zip(starts, value.failings)])


def box_of(sides):
    """The box with these edges."""
    a, b, c = sides
    return box(a, b, c)


def is_boxed(body, value):
    """Whether a Boxed is right."""
    told = [sides for sides in boxes_like(body) if exactly(sides, value.sides)]
    if not told or not is_overlay(value.overlay):
        return False
    return is_right(body, box_of(told[0]), value.overlay, False)


def is_apart_from(body, sides, value):
    """Whether any value is a right Apart of a body and a box."""
    if not isinstance(value, Apart) or value.__class__.__name__ != "Apart":
        return False
    return is_apart(body, box_of(sides), False, value)


def is_other(body, value):
    """Whether an Other is right."""
    boxes = boxes_like(body)
    if not is_listed(value.aparts) or len(value.aparts) != len(boxes):
        return False
    if not all([is_apart_from(body, sides, apart) for sides, apart in zip(boxes, value.aparts)]):
        return False
    return is_no_plate(body, value.noplate)


def shows_plate(body, value):
    """Whether any value is a right Plate or a right NoPlate of a body."""
    need_body(body, "body")
    return is_plate(body, value) or is_no_plate(body, value)


def shows_named(body, value):
    """Whether any value is a right Boxed, Plate or Other of a body."""
    need_body(body, "body")
    if isinstance(value, Boxed) and value.__class__.__name__ == "Boxed":
        return is_boxed(body, value)
    if isinstance(value, Other) and value.__class__.__name__ == "Other":
        return is_other(body, value)
    return is_plate(body, value)
