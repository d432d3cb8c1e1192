"""Seen votes of a council: what they tell of the rows that were not seen, and which to ask next."""

from roundorlist.counts import full_many
from roundorlist.errors import BadSeen, NoCouncil, TooMany
from roundorlist.lots import rising_fault
from roundorlist.rounds import rows_go_round
from roundorlist.rows import ask_many, level, made_row, rows_of, turned

MOST_FOR_ASKING = 4


def seen_fault(thing):
    """What BadSeen tells of thing, None if it is seen votes."""
    if not isinstance(thing, tuple) or len(thing) != 3:
        return -1
    n, won, lost = thing
    ask_many(n)
    for index, rows in enumerate((won, lost)):
        if not isinstance(rows, tuple) or rising_fault(n, rows, False) is not None:
            return index
    return None


def made_seen(thing):
    """The seen votes that thing is."""
    fault = seen_fault(thing)
    if fault is not None:
        raise BadSeen(fault)
    return thing


def calm_without(n, won, lost):
    """Whether a table that has these rows won and none of these lost does not go round."""
    barred = set(lost)
    # With fewer rows a table goes round no more than ahead, so the rows won alone tell it.
    return not any([row in barred for row in won]) and not rows_go_round(n, won)


def could(seen):
    """Whether there is a calm table."""
    n, won, lost = made_seen(seen)
    return calm_without(n, won, lost)


def verdict(seen, row):
    """What the calm tables tell of the row: "level", "won", "never" or "open"."""
    n, won, lost = made_seen(seen)
    made_row(n, row)
    if not calm_without(n, won, lost):
        raise NoCouncil(0)
    if row == level(n):
        return "level"
    if row in won:
        return "won"
    if calm_without(n, won + (row,), lost):
        return "open"
    return "never"


def wins_told(won, lost):
    """The rows that win in every decided table: those won, and those lost turned."""
    return won + tuple([turned(row) for row in lost])


def decided_with(n, wins):
    """How many decided tables have all these rows."""
    # Unlike ladders have unlike tables, so ladders are counted.
    return full_many(n, wins, 0, {})


def decided_many(seen):
    """How many decided tables have all rows won and none lost."""
    n, won, lost = made_seen(seen)
    return decided_with(n, wins_told(won, lost))


def decided(seen, row):
    """What the decided tables tell of the row: "level", "wins", "loses" or "open"."""
    n, won, lost = made_seen(seen)
    made_row(n, row)
    wins = wins_told(won, lost)
    many = decided_with(n, wins)
    if many == 0:
        raise NoCouncil(0)
    if row == level(n):
        return "level"
    winning = decided_with(n, wins + (row,))
    if winning == many:
        return "wins"
    if winning == 0:
        return "loses"
    return "open"


def next_ask(seen):
    """The least of the rows whose vote leaves the fewest decided tables at worst, None if just one is there."""
    n, won, lost = made_seen(seen)
    if n > MOST_FOR_ASKING:
        raise TooMany(n)
    wins = wins_told(won, lost)
    many = decided_with(n, wins)
    if many == 0:
        raise NoCouncil(0)
    best = None
    best_lesser = 0
    for row in rows_of(n):
        if row != level(n):
            winning = decided_with(n, wins + (row,))
            # A decided table in which the row does not win has its turned one, so it counts for the row lost.
            lesser = min(winning, many - winning)
            if lesser > best_lesser:
                best = row
                best_lesser = lesser
    return best
