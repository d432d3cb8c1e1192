"""Ladders: members one behind another, each with a sign, asked only where those ahead are level."""

from roundorlist.errors import BadLadder
from roundorlist.lots import made_lot
from roundorlist.rows import ask_many, is_many, is_number, made_row


def rung_fits(n, thing):
    """Whether thing is a pair of one of n members and a sign."""
    if not isinstance(thing, tuple) or len(thing) != 2:
        return False
    member, sign = thing
    if not is_number(member) or not is_number(sign):
        return False
    return 0 <= member < n and sign in (-1, 1)


def ladder_fault(n, thing):
    """What BadLadder tells of thing, None if it is a ladder of n members."""
    if not isinstance(thing, tuple):
        return -1
    ahead = {}
    for index, part in enumerate(thing):
        if not rung_fits(n, part) or part[0] in ahead:
            return index
        ahead[part[0]] = True
    return None


def made_ladder(n, thing):
    """The ladder that thing is."""
    ask_many(n)
    fault = ladder_fault(n, thing)
    if fault is not None:
        raise BadLadder(fault)
    return thing


def is_ladder(n, thing):
    """Whether n may be a number of members, and thing is a ladder of as many."""
    return is_many(n) and ladder_fault(n, thing) is None


def stand_on(ladder, row):
    """0 if the row is level on the ladder, 1 if it climbs, -1 if it falls."""
    for member, sign in ladder:
        if row[member] != 0:
            # Equal signs make 1, contrary ones -1.
            return row[member] * sign
    return 0


def look(n, ladder, row):
    """How the row stands on the ladder: 0 if it is level, 1 if it climbs, -1 if it falls."""
    made_ladder(n, ladder)
    made_row(n, row)
    return stand_on(ladder, row)


def none_falls(rows, ladder):
    """Whether none of the rows falls on the ladder."""
    return all([stand_on(ladder, row) != -1 for row in rows])


def all_climb(rows, ladder):
    """Whether all rows climb the ladder."""
    return all([stand_on(ladder, row) == 1 for row in rows])


def heeds(lot, ladder):
    """Whether no row of the lot falls on the ladder."""
    n, rows = made_lot(lot)
    made_ladder(n, ladder)
    return none_falls(rows, ladder)


def climbed(lot, ladder):
    """Whether all rows of the lot climb the ladder."""
    n, rows = made_lot(lot)
    made_ladder(n, ladder)
    return all_climb(rows, ladder)


def bars(lot, ladder, row):
    """Whether the lot heeds the ladder, and the ladder bars the row."""
    n, rows = made_lot(lot)
    made_ladder(n, ladder)
    made_row(n, row)
    stand = stand_on(ladder, row)
    if stand == 0:
        return all_climb(rows, ladder)
    return stand == -1 and none_falls(rows, ladder)
