"""The walk: a ladder that bars a row is made step by step, or shown not to be there."""

from roundorlist.ladders import stand_on
from roundorlist.lots import ask_order, made_lot
from roundorlist.rows import made_row


def can_put(left, row, member, sign):
    """Whether the member, not on the ladder yet, can be put behind it with the sign."""
    return row[member] != sign and -sign not in [each[member] for each in left]


def next_rung(ladder, left, row, order):
    """The first member in the order of which something can be put, with its sign, or None."""
    held = [member for member, _ in ladder]
    for member in order:
        if member in held:
            continue
        for sign in (1, -1):
            if can_put(left, row, member, sign):
                return (member, sign)
    return None


def walked(rows, row, order):
    """The word and the ladder of a walk by the members in their order."""
    ladder = ()
    left = rows
    while len(left) > 0 and stand_on(ladder, row) != -1:
        rung = next_rung(ladder, left, row, order)
        if rung is None:
            return ("led", ladder)
        ladder = ladder + (rung,)
        left = tuple([each for each in left if each[rung[0]] == 0])
    return ("barred", ladder)


def walk_by(lot, row, order):
    """The walk by the members in an order: ("led", ladder) or ("barred", ladder)."""
    n, rows = made_lot(lot)
    made_row(n, row)
    ask_order(n, order)
    return walked(rows, row, order)


def walk(lot, row):
    """The walk by the members in rising order."""
    n, rows = made_lot(lot)
    made_row(n, row)
    return walked(rows, row, tuple(range(n)))


def can_lead(lot, row):
    """Whether the lot can lead to the row."""
    word, _ = walk(lot, row)
    return word == "led"
