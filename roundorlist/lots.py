"""Lots: a number of members, and some rows of as many, rising."""

from roundorlist.errors import BadLot, BadOrder, BadSigns, Refused, Unlike
from roundorlist.rows import ask_many, is_number, level, made_row, row_fault, turned


def lot_fault(thing, level_let):
    """What BadLot tells of thing, None if it is a lot; the level row may stand in it only if it is let."""
    if not isinstance(thing, tuple) or len(thing) != 2:
        return -1
    n, rows = thing
    ask_many(n)
    if not isinstance(rows, tuple):
        return -1
    return rising_fault(n, rows, level_let)


def rising_fault(n, rows, level_let):
    """The first index at which there is no row that may stand there, None if all are."""
    # The empty tuple is less than every row, so no first row is too low.
    ahead = ()
    for index, row in enumerate(rows):
        if row_fault(n, row) is not None or row <= ahead:
            return index
        if not level_let and row == level(n):
            return index
        ahead = row
    return None


def made_lot(thing):
    """The lot that thing is."""
    fault = lot_fault(thing, True)
    if fault is not None:
        raise BadLot(fault)
    return thing


def is_lot(thing):
    """Whether thing is a lot."""
    try:
        made_lot(thing)
    except Refused:
        return False
    return True


def has(lot, row):
    """Whether the row is in the lot."""
    n, rows = made_lot(lot)
    return made_row(n, row) in rows


def lot_of(n, rows):
    """The lot of some rows in any order, none of them twice."""
    return (n, tuple(sorted(rows)))


def ask_two(one, two):
    """What the marks (lot), of one and then of two, and (unlike) stand for."""
    made_lot(one)
    made_lot(two)
    if one[0] != two[0]:
        raise Unlike(0)


def joined(one, two):
    """The lot of all rows in one or in two."""
    ask_two(one, two)
    return (one[0], tuple(sorted(set(one[1] + two[1]))))


def both(one, two):
    """The lot of all rows in one and in two."""
    ask_two(one, two)
    held = set(two[1])
    return (one[0], tuple([row for row in one[1] if row in held]))


def without(one, two):
    """The lot of all rows in one and not in two."""
    ask_two(one, two)
    held = set(two[1])
    return (one[0], tuple([row for row in one[1] if row not in held]))


def is_order_of(n, thing):
    """Whether thing is a tuple that has each of n members just once."""
    if not isinstance(thing, tuple) or len(thing) != n:
        return False
    # True and False are equal to 1 and 0, so sorting alone would let them by.
    return all([is_number(member) for member in thing]) and sorted(thing) == list(range(n))


def ask_order(n, order):
    """What the mark (order) stands for."""
    if not is_order_of(n, order):
        raise BadOrder(-1)


def renamed_row(row, order):
    """The row, each member order[j] called j."""
    return tuple([row[member] for member in order])


def renamed(lot, order):
    """The lot, each member order[j] called j."""
    n, rows = made_lot(lot)
    ask_order(n, order)
    return lot_of(n, [renamed_row(row, order) for row in rows])


def ask_signs(n, signs):
    """Raise BadSigns unless signs are a 1 or a -1 for each member."""
    if not isinstance(signs, tuple) or len(signs) != n:
        raise BadSigns(-1)
    for place, sign in enumerate(signs):
        if not is_number(sign) or sign not in (-1, 1):
            raise BadSigns(place)


def mirrored_row(row, signs):
    """The row, its number at each place multiplied by the sign there."""
    return tuple([number * sign for number, sign in zip(row, signs)])


def mirrored(lot, signs):
    """The lot, the number at each place of each row multiplied by the sign there."""
    n, rows = made_lot(lot)
    ask_signs(n, signs)
    return lot_of(n, [mirrored_row(row, signs) for row in rows])


def turned_lot(lot):
    """The lot of the rows, each turned."""
    n, rows = made_lot(lot)
    return lot_of(n, [turned(row) for row in rows])
