"""Orders: lots read as at least as high, what ladders let by, and orders by their ladders."""

from roundorlist.counts import heads_of, left_at
from roundorlist.errors import BadLadders
from roundorlist.ladders import ladder_fault, stand_on
from roundorlist.leading import way_of
from roundorlist.ledlots import ask_few_members, break_of
from roundorlist.lots import made_lot
from roundorlist.rows import ask_many, level, rows_of, turned

MOST_LADDERS = 400


def against(lot):
    """What tells that the lot is no order: ("level",), or ("three", way); None if it is one."""
    n, rows = made_lot(lot)
    ask_few_members(n)
    if level(n) not in rows:
        return ("level",)
    found = break_of(lot)
    if found is None:
        return None
    one, two, row = found
    return ("three", way_of(n, (one, two), row))


def is_order(lot):
    """Whether the lot, read as at least as high, is an order."""
    return against(lot) is None


def never_apart(lot):
    """Whether of each row it or its turned one is in the lot."""
    n, rows = made_lot(lot)
    ask_few_members(n)
    held = set(rows)
    return all([row in held or turned(row) in held for row in rows_of(n)])


def ask_ladders(n, ladders):
    """Raise BadLadders unless ladders are a tuple of ladders, not too many."""
    if not isinstance(ladders, tuple) or len(ladders) > MOST_LADDERS:
        raise BadLadders(-1)
    for index, ladder in enumerate(ladders):
        if ladder_fault(n, ladder) is not None:
            raise BadLadders(index)


def let_rows(n, ladders):
    """All rows that fall on none of the ladders, rising."""
    return tuple([row for row in rows_of(n) if -1 not in [stand_on(ladder, row) for ladder in ladders]])


def let_by(n, ladders):
    """The lot of all rows that fall on none of the ladders."""
    ask_many(n)
    ask_ladders(n, ladders)
    ask_few_members(n)
    return (n, let_rows(n, ladders))


def longest_from(n, rows, ladder):
    """All longest ladders that go on from this one, or this one alone, rising; these rows are left on it."""
    members = [member for member, _ in ladder]
    rungs = [rung for rung in heads_of(n, rows) if rung[0] not in members]
    if len(rungs) == 0:
        return [ladder]
    found = []
    for rung in rungs:
        found.extend(longest_from(n, left_at(rows, rung[0]), ladder + (rung,)))
    return found


def longest(lot):
    """All ladders that the lot heeds such that it heeds none that goes on from them, rising."""
    n, rows = made_lot(lot)
    ask_few_members(n)
    return tuple(longest_from(n, rows, ()))


def one_ladder(lot):
    """The ladder that alone lets by just the lot, None if there is none."""
    ladders = longest(lot)
    # Of the rows that a ladder lets by and that are level on a beginning of it, some have each sign at each
    # further member, but for the one that comes next. So no other ladder of theirs is a longest one.
    if len(ladders) == 1 and let_rows(lot[0], ladders) == lot[1]:
        return ladders[0]
    return None
