"""The bodies that a sheet makes."""

from rimsewn.bodies import need_body, need_one_kind, sewn
from rimsewn.codes import code_of, least_row
from rimsewn.papers import Denial
from rimsewn.rims import Rim
from rimsewn.sewn import Sewing, sewings
from rimsewn.sheets import need_sheet


class NotMade(Denial):
    """The codes of all bodies that a sheet makes."""

    def __init__(self, codes):
        Denial.__init__(self, "notmade", codes)
        self.codes = self.parts[0]


def code_of_sheet(sheet):
    """The code of a sheet: the least of the rows of mates."""
    need_sheet(sheet)
    return least_row(sheet.skin)[0]


def made(sheet):
    """The pairs of the code of each body that a sheet makes, and how many sewings make it, ascending."""
    need_sheet(sheet)
    rim = Rim.of(sheet)
    found = {}
    for nesting in sewings(rim):
        code = code_of(sewn(sheet, nesting))
        found[code] = found.get(code, 0) + 1
    return tuple([(code, found[code]) for code in sorted(list(found))])


def codes_made(sheet):
    """The codes of all bodies that a sheet makes, ascending."""
    return tuple([code for code, _ in made(sheet)])


def need_fitting(sheet, body):
    """Refuses what is no sheet and no body, or of unlike kinds of grid."""
    need_sheet(sheet)
    need_body(body, "body")
    need_one_kind(sheet, body)


def makes(sheet, body):
    """The first Sewing of a sheet that makes a body; a NotMade if there is none."""
    need_fitting(sheet, body)
    code = code_of(body)
    rim = Rim.of(sheet)
    for nesting in sewings(rim):
        if code_of(sewn(sheet, nesting)) == code:
            return Sewing(nesting.partners)
    return NotMade(codes_made(sheet))
