"""Bodies drawn by a seed, for the tests alone."""

import random

from rimsewn.bodies import Body, sewn
from rimsewn.rims import Rim
from rimsewn.sewn import many_sewings, sewing_at
from rimsewn.sheets import Sheet


def drawn_sheet(kind, faces, draw, tucking=0.6):
    """A sheet of so many faces; edges that meet at a full round are often joined."""
    sheet = Sheet.single(kind)
    while sheet.faces < faces:
        sheet = sheet.put_on(draw.randrange(len(sheet)))
        full = [corner for corner, amount in enumerate(sheet.amounts) if amount == sheet.skin.full]
        if full and len(sheet) > 4 and draw.random() < tucking:
            sheet = sheet.tucked(draw.choice(full))
    return sheet


def drawn_body(kind, faces, seed):
    """A body of so many faces, an even number of triangles, with its numbers drawn, too."""
    draw = random.Random(f"{kind} {faces} {seed}")
    while True:
        sheet = drawn_sheet(kind, faces, draw)
        rim = Rim.of(sheet)
        count = many_sewings(rim)
        if count:
            body = sewn(sheet, sewing_at(rim, draw.randrange(count)))
            return shuffled(body, draw)


def shuffled(body, draw):
    """The body, renamed by a draw."""
    order = list(range(body.faces))
    draw.shuffle(order)
    return body.renamed(order, [draw.randrange(body.turn) for _ in order])
