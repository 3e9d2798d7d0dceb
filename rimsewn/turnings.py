"""All ways to lay a body upon itself, face by face."""

from rimsewn.bodies import need_body
from rimsewn.codes import Renaming, order_of, renaming_to


def own_renamings(body, mirrored):
    """All Renamings of a body onto itself, ascending; the mirrored ones if that is asked."""
    need_body(body, "body")
    order, row = order_of(body.skin, mirrored)
    found = [renaming_to(order, row, body.skin, side) for side in range(body.skin.sides)]
    return tuple([Renaming(sides) for sides in found if sides is not None])


def turnings(body):
    """All Renamings of a body onto itself, ascending by their sides."""
    return own_renamings(body, False)


def mirrors(body):
    """All mirrored Renamings of a body onto itself, ascending by their sides."""
    return own_renamings(body, True)
