"""Deed lines: what they do to a table, and what they answer."""

from rimsewn.bodies import Body, sewn
from rimsewn.cuts import Cut
from rimsewn.desk_lines import ASKS, read_line, refuse_first
from rimsewn.errors import NoName, Nothing, Twice
from rimsewn.opened import opened
from rimsewn.sheets import Sheet
from rimsewn.tables import Table, need_table


def need_hand(table):
    """Refuses a table with nothing in hand."""
    if table.hand is None:
        raise Nothing()


def need_new(table, name):
    """Refuses a name under which a thing is kept."""
    if name in table.names:
        raise Twice(name)


def sheet_under(table, name):
    """The sheet that is kept under a name."""
    thing = table.thing(name)
    if not isinstance(thing, Sheet):
        raise NoName(name)
    return thing


def body_under(table, name):
    """The body that is kept under a name."""
    thing = table.thing(name)
    if not isinstance(thing, Body):
        raise NoName(name)
    return thing


def with_thing(table, name, thing):
    """The Table with one thing more, behind the others."""
    return Table(table.things + ((name, thing),), table.hand, table.facts)


def put(table, told):
    """Keeps a sheet."""
    need_new(table, told[1])
    later = with_thing(table, told[1], told[2])
    return later, len(later.names)


def take(table, told):
    """Takes a sheet in hand."""
    sheet = sheet_under(table, told[1])
    return Table(table.things, told[1]), len(sheet)


def sew(table, told):
    """Keeps the body that the sheet in hand makes."""
    need_hand(table)
    need_new(table, told[1])
    later = with_thing(table, told[1], sewn(table.thing(table.hand), told[2]))
    return later, len(later.names)


def open_body(table, told):
    """Keeps the sheet to which a body is opened."""
    body = body_under(table, told[1])
    need_new(table, told[2])
    sheet = opened(Cut(body, told[3:]))
    return with_thing(table, told[2], sheet), len(sheet)


def drop(table, told):
    """Takes out a thing."""
    table.thing(told[1])
    things = [pair for pair in table.things if pair[0] != told[1]]
    later = Table(things) if table.hand == told[1] else Table(things, table.hand, table.facts)
    return later, len(later.names)


def tell(table, told):
    """Puts a fact behind the others."""
    need_hand(table)
    later = Table(table.things, table.hand, table.facts + (told[1],))
    return later, len(table.facts)


def strike(table, told):
    """Takes out facts."""
    need_hand(table)
    fewer = table.book.without(told[1:])
    return Table(table.things, table.hand, fewer.facts), len(fewer)


ACTIONS = {"put": put, "take": take, "sew": sew, "open": open_body, "drop": drop, "tell": tell, "strike": strike}


def changed(table, line):
    """The Table behind a deed line, and the answer."""
    need_table(table)
    refuse_first(line, ASKS)
    told = read_line(line)
    action = ACTIONS[told[0]]
    later, number = action(table, told)
    return later, str(number)
