"""Whether a value shows which bodies a sheet makes, or which sheet two bodies have in common."""

from rimsewn.bodies import sewn
from rimsewn.check_bodies import renames
from rimsewn.check_cuts import is_cut
from rimsewn.check_sewn import nesting_or_none, tells_sewing
from rimsewn.codes import code_of
from rimsewn.common import Common, NoCommon, need_pair, sheets_of
from rimsewn.cuts import Cut, few_seams
from rimsewn.made import NotMade, codes_made, need_fitting
from rimsewn.opened import opened
from rimsewn.papers import exactly
from rimsewn.rims import Rim
from rimsewn.sewn import Sewing


def shows_makes(sheet, body, value):
    """Whether any value is a Sewing by which a sheet makes a body, or the right NotMade."""
    need_fitting(sheet, body)
    if isinstance(value, Sewing) and value.__class__.__name__ == "Sewing":
        if not tells_sewing(Rim.of(sheet), value.partners):
            return False
        return code_of(sewn(sheet, nesting_or_none(value.partners))) == code_of(body)
    if isinstance(value, NotMade) and value.__class__.__name__ == "NotMade":
        codes = codes_made(sheet)
        return code_of(body) not in codes and exactly(value.codes, codes)
    return False


def is_common(one, other, value):
    """Whether a Common tells a cut of each body, and a renaming of the opened sheets."""
    if not is_cut(one, value.one) or not is_cut(other, value.other):
        return False
    own, its = opened(Cut(one, value.one)).skin, opened(Cut(other, value.other)).skin
    return renames(own, its, False, value.sides)


def is_no_common(one, other, value):
    """Whether a NoCommon tells the codes of the sheets of both bodies, none of which stands in both."""
    ones, others = sheets_of(one), sheets_of(other)
    if any([code in others for code in ones]):
        return False
    return exactly(value.parts, (ones, others))


def shows_common(one, other, value):
    """Whether any value is a right Common or the right NoCommon of two bodies."""
    need_pair(one, other)
    few_seams(one)
    few_seams(other)
    if isinstance(value, Common) and value.__class__.__name__ == "Common":
        return is_common(one, other, value)
    if isinstance(value, NoCommon) and value.__class__.__name__ == "NoCommon":
        return is_no_common(one, other, value)
    return False
