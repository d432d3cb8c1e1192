"""Bridges: ways between two motions that are given, in heights fine enough for the motions between them."""

from roundorlist.errors import Barred, NotLed, TooMany
from roundorlist.leading import few, heights_back, heights_by, leads, row_of, sign_between
from roundorlist.rows import made_rows
from roundorlist.tables import made_table
from roundorlist.worlds import FINE, made_motion

# Each number up to this one divides FINE, so the height between two motions can be parted evenly.
MOST_STEPS = 7


def heights_between(steps, one, two):
    """The fine heights of one member in a bridge with these steps, from the height one to the height two."""
    sign = sign_between(two, one)
    if sign == 0:
        heights = heights_back(steps)
    else:
        many = steps.count(sign)
        # Each step that has the sign makes good a share of the way back that the contrary ones go.
        wide = FINE * abs(two - one) // many + steps.count(-sign)
        heights = heights_by(steps, sign, wide, many)
    return [FINE * one + height for height in heights]


def bridge_of(n, rows, one, two):
    """The way whose steps are the rows, in their order, from the motion one to the motion two, in fine heights."""
    made_rows(n, rows)
    made_motion(n, one)
    made_motion(n, two)
    if len(rows) > MOST_STEPS:
        raise TooMany(len(rows))
    if not leads(n, rows, row_of(two, one)):
        raise NotLed(0)
    columns = []
    for place in range(n):
        columns.append(heights_between([row[place] for row in rows], one[place], two[place]))
    return tuple(zip(*columns))


def bridge(table, one, two):
    """A way by the table, of few steps, from the motion one to the motion two, in fine heights."""
    n, _ = made_table(table)
    made_motion(n, one)
    made_motion(n, two)
    rows = few(table, row_of(two, one))
    if rows is None:
        raise Barred(0)
    return bridge_of(n, rows, one, two)
