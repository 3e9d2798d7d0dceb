"""Sheets to which bodies are opened, and those that two bodies have in common."""

from rimsewn.bodies import need_bodies, need_one_kind
from rimsewn.codes import goals_by, least_row, numbered_from
from rimsewn.cuts import cuts
from rimsewn.opened import opened
from rimsewn.papers import Denial, Paper


class Common(Paper):
    """A cut of each of two bodies, and a renaming of the first opened sheet onto the second one."""

    def __init__(self, one, other, sides):
        Paper.__init__(self, "common", one, other, sides)
        self.one = self.parts[0]
        self.other = self.parts[1]
        self.sides = self.parts[2]


class NoCommon(Denial):
    """The codes of the sheets of two bodies."""

    def __init__(self, ones, others):
        Denial.__init__(self, "nocommon", ones, others)
        self.ones = self.parts[0]
        self.others = self.parts[1]


def cuts_by_codes(body):
    """For the code of each sheet to which a body is opened the first cut without idle ends that does so."""
    found = {}
    for cut in cuts(body):
        code = least_row(opened(cut).skin)[0]
        if code not in found:
            found[code] = cut
    return found


def sheets_of(body):
    """The codes of all sheets to which a body is opened along cuts without idle ends, ascending."""
    return tuple(sorted(list(cuts_by_codes(body))))


def standard_order(cut):
    """The sides of the opened sheet, in the order of a numbering whose row of mates is its code."""
    skin = opened(cut).skin
    return numbered_from(skin, least_row(skin)[1])


def need_pair(one, other):
    """Refuses what is no pair of bodies of one kind of grid."""
    need_bodies(one, other)
    need_one_kind(one, other)


def common_sheet(one, other):
    """A Common of two bodies; a NoCommon if there is no common sheet."""
    need_pair(one, other)
    ones, others = cuts_by_codes(one), cuts_by_codes(other)
    for code, cut in ones.items():
        if code in others:
            its = others[code]
            sides = goals_by(standard_order(cut), standard_order(its), one.skin.sides)
            return Common(cut.seams, its.seams, sides)
    return NoCommon(sorted(list(ones)), sorted(list(others)))


def common_codes(one, other):
    """The codes of all common sheets of two bodies, to which they are opened without idle ends, ascending."""
    need_pair(one, other)
    others = sheets_of(other)
    return tuple([code for code in sheets_of(one) if code in others])
