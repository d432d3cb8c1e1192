"""Rounds: ways by a table that come back to where they began, and the ladder that stands where there is none."""

from roundorlist.counts import nth
from roundorlist.leading import fewest, lead_way
from roundorlist.rows import level
from roundorlist.tables import made_table
from roundorlist.walking import walked


def rows_go_round(n, rows):
    """Whether a table of these rows, in any order, goes round."""
    # A round is a way whose end is level to its beginning.
    word, _ = walked(rows, level(n), tuple(range(n)))
    return word == "led"


def goes_round(table):
    """Whether the table goes round."""
    n, rows = made_table(table)
    return rows_go_round(n, rows)


def round_of(table):
    """A round of the table, of few steps, None if there is none."""
    if not goes_round(table):
        return None
    return lead_way(table, level(table[0]))


def round_size(table):
    """The least number of steps of any round of the table, None if there is none."""
    n, _ = made_table(table)
    return fewest(table, level(n))


def ladder_of(table):
    """The first tight ladder of the table, None if the table goes round."""
    if goes_round(table):
        return None
    return nth(table, 0)
