"""Members and rows: how a new motion stands to the old one, member by member."""

from roundorlist.errors import BadMany, BadRow, BadRows

MOST_MEMBERS = 6
MOST_ROWS = 14
SIGNS = (-1, 0, 1)


def is_number(thing):
    """Whether thing is an int that is neither True nor False."""
    return isinstance(thing, int) and not isinstance(thing, bool)


def is_many(n):
    """Whether a council may have n members."""
    return is_number(n) and 1 <= n <= MOST_MEMBERS


def ask_many(n):
    """What the mark (n) stands for."""
    if not is_many(n):
        raise BadMany(n)


def row_fault(n, thing):
    """What BadRow tells of thing, None if it is a row of n members."""
    if not isinstance(thing, tuple) or len(thing) != n:
        return -1
    for place, sign in enumerate(thing):
        # True and False are equal to 1 and 0, so the signs alone would let them by.
        if not is_number(sign) or sign not in SIGNS:
            return place
    return None


def made_row(n, thing):
    """The row that thing is."""
    ask_many(n)
    fault = row_fault(n, thing)
    if fault is not None:
        raise BadRow(fault)
    return thing


def is_row(n, thing):
    """Whether n may be a number of members, and thing is a row of as many."""
    return is_many(n) and row_fault(n, thing) is None


def made_rows(n, thing):
    """The 1 to 14 rows that thing is, to be laid one behind another."""
    ask_many(n)
    if not isinstance(thing, tuple) or not 1 <= len(thing) <= MOST_ROWS:
        raise BadRows(-1)
    for index, row in enumerate(thing):
        if row_fault(n, row) is not None:
            raise BadRows(index)
    return thing


def level(n):
    """The level row."""
    ask_many(n)
    return (0,) * n


def rows_of(n):
    """All rows of n members, rising."""
    ask_many(n)
    return all_of([SIGNS] * n)


def all_of(choices):
    """All rows that have at each place one of the signs to choose from there, rising if these are."""
    rows = [()]
    for signs in choices:
        rows = [row + (sign,) for row in rows for sign in signs]
    return tuple(rows)


def turned(row):
    """How the old motion stands to the new one."""
    return tuple([-sign for sign in row])


def sums(one, two):
    """All rows by which a step as one tells and then a step as two tells may end, rising."""
    return all_of([signs_summed(here, there) for here, there in zip(one, two)])


def signs_summed(here, there):
    """The signs that a place of a sum can have."""
    if here == 0 or here == there:
        return (there,)
    if there == 0:
        return (here,)
    return SIGNS
