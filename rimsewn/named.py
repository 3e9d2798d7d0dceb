"""Names of bodies: boxes, plates, others."""

from rimsewn.bodies import need_body
from rimsewn.boxes import box, boxes_of
from rimsewn.papers import Denial, Paper
from rimsewn.plates import plate
from rimsewn.truth import in_truth


class Boxed(Paper):
    """The edges of a box, and an Overlay of the body onto it."""

    def __init__(self, sides, overlay):
        Paper.__init__(self, "boxed", sides, overlay)
        self.sides = self.parts[0]
        self.overlay = self.parts[1]


class Other(Denial):
    """An Apart of the body and each box of as many faces, and a NoPlate."""

    def __init__(self, aparts, noplate):
        Denial.__init__(self, "other", aparts, noplate)
        self.aparts = self.parts[0]
        self.noplate = self.parts[1]


def boxes_like(body):
    """The edges of all boxes of as many faces as a body; none with triangles."""
    return boxes_of(body.faces) if body.kind == "square" else ()


def named(body):
    """A Boxed, a Plate, or an Other of a body."""
    need_body(body, "body")
    aparts = []
    for sides in boxes_like(body):
        a, b, c = sides
        paper = in_truth(body, box(a, b, c))
        if paper:
            return Boxed(sides, paper)
        aparts.append(paper)
    paper = plate(body)
    return paper if paper else Other(aparts, paper)
