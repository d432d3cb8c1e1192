"""What the tests share: exact comparison, refusals, odd values, and lots to try."""

import random
import unittest
from itertools import combinations

from roundorlist import errors


def nested(depth, inner):
    """inner within depth tuples, each of one part."""
    thing = inner
    for _ in range(depth):
        thing = (thing,)
    return thing


DEEP = nested(50, 0)
DEEP_PAIRS = 0
for _ in range(50):
    DEEP_PAIRS = (1, DEEP_PAIRS)
LONG = (0,) * 100000
LONG_ROWS = ((1, 0),) * 30000

# What stands for no tuple, and for no number, wherever one is due.
NO_TUPLES = (None, True, False, 0, 1, -1, 7, 10 ** 999, "", "0", "01", "(0, 1)", "x" * 99999)
NO_NUMBERS = (None, True, False, "", "1", "0", (), (1,), (0, 1), DEEP, DEEP_PAIRS, LONG)
NO_MANY = NO_NUMBERS + (0, -1, 7, 8, -6, 10 ** 999, -10 ** 999)
NO_SIGNS = NO_NUMBERS + (2, -2, 7, 10 ** 999, -10 ** 999)
ODD = NO_TUPLES + NO_SIGNS + ((None,), ("",), ((),), (True,), (1, True), (1, ()), (1, ((True,),)), LONG_ROWS)

# Things that are no lots, and what is told of each.
NO_LOTS = tuple((thing, "BadLot", -1) for thing in NO_TUPLES) + (
    ((), "BadLot", -1),
    ((1,), "BadLot", -1),
    ((0,), "BadLot", -1),
    ((1, (), ()), "BadLot", -1),
    ((0, (), ()), "BadLot", -1),
    (DEEP, "BadLot", -1),
    (LONG, "BadLot", -1),
    (LONG_ROWS, "BadLot", -1),
    (DEEP_PAIRS, "BadLot", 0),
    (((1,), ()), "BadMany", (1,)),
    ((0, ()), "BadMany", 0),
    ((7, ()), "BadMany", 7),
    ((True, ()), "BadMany", True),
    ((None, None), "BadMany", None),
    ((0, None), "BadMany", 0),
    ((7, ((7,),)), "BadMany", 7),
    ((1, None), "BadLot", -1),
    ((1, 0), "BadLot", -1),
    ((1, False), "BadLot", -1),
    ((1, "0"), "BadLot", -1),
    ((6, 6), "BadLot", -1),
    ((1, LONG), "BadLot", 0),
    ((2, LONG_ROWS), "BadLot", 1),
    ((1, (0, 1)), "BadLot", 0),
    ((1, ((True,),)), "BadLot", 0),
    ((1, ((False,), (1,))), "BadLot", 0),
    ((1, ((0,), (True,))), "BadLot", 1),
    ((2, ((0, 1), (1, 2))), "BadLot", 1),
    ((2, ((0, 1), (1,))), "BadLot", 1),
    ((2, ((0, 1), (1, 0, 0))), "BadLot", 1),
    ((2, ((0, 1), None)), "BadLot", 1),
    ((2, ((0, 1), "10")), "BadLot", 1),
    ((2, ((0, 1), ())), "BadLot", 1),
    ((2, ((), (0, 1))), "BadLot", 0),
    ((2, ((0, 1), DEEP)), "BadLot", 1),
    ((2, ((0, 1), (1, DEEP))), "BadLot", 1),
    ((2, ((0, 1), (0, 1))), "BadLot", 1),
    ((2, ((1, 1), (0, 1))), "BadLot", 1),
    ((2, ((-1, 0), (0, 1), (0, 1), (1, 1))), "BadLot", 2),
    ((2, ((-1, 0), (0, 1), (0, 0), (1, 1))), "BadLot", 2),
    ((2, ((-1, 0), (0, 1), (0, 0), (7, 1))), "BadLot", 2),
    ((2, ((-1, 0), (0, 7), (0, 0), (0, 0))), "BadLot", 1),
    ((1, ((1,), (0,), (-1,))), "BadLot", 1),
    ((1, ((0,), (0,))), "BadLot", 1),
)


def exact(value):
    """The value with the kind of each of its parts, so that True is not 1 and a list no tuple."""
    if type(value) is tuple:
        return ("tuple", [exact(part) for part in value])
    return (type(value).__name__, value)


class Case(unittest.TestCase):

    def same(self, got, wanted):
        """got is wanted, in the kinds of all its parts, too."""
        if got is not wanted:
            self.assertEqual(exact(got), exact(wanted))

    def refused(self, name, what, call, *args, **more):
        """The call is refused by just this class with just this what."""
        with self.assertRaises(errors.Refused) as caught:
            call(*args, **more)
        self.assertIs(type(caught.exception), getattr(errors, name))
        self.same(caught.exception.what, what)

    def judged(self, judge, *args):
        """A judge says no, and raises nothing."""
        self.assertIs(judge(*args), False)


def level_of(n):
    return (0,) * n


def every_row(n):
    """All rows of n members, rising, told without the package."""
    rows = [()]
    for _ in range(n):
        rows = [row + (sign,) for row in rows for sign in (-1, 0, 1)]
    return tuple(rows)


def every_lot(n):
    """All lots of n members."""
    rows = every_row(n)
    return [(n, tuple(row for at, row in enumerate(rows) if chosen >> at & 1)) for chosen in range(1 << len(rows))]


def some_lots(n, many, most):
    """So many lots of n members, the same ones in each run, of at most so many rows."""
    chance = random.Random(1000 * n + many)
    rows = every_row(n)
    lots = []
    for at in range(many):
        lots.append((n, tuple(sorted(chance.sample(rows, at % (most + 1))))))
    return lots


def small_lots(n, most):
    """All lots of n members with at most so many rows."""
    return [(n, rows) for many in range(most + 1) for rows in combinations(every_row(n), many)]


def every_ladder(n):
    """All ladders of n members, () ahead."""
    ladders = [()]
    # The list grows while it is gone over, until the ladders of all members are reached.
    for ladder in ladders:
        held = [member for member, _ in ladder]
        ladders += [ladder + ((member, sign),) for member in range(n) if member not in held for sign in (-1, 1)]
    return ladders


def stand(ladder, row):
    """0, 1 or -1, as the row is level on the ladder, climbs it or falls on it ([9]), told without the package."""
    met = [row[member] == sign for member, sign in ladder if row[member] != 0]
    if not met:
        return 0
    return 1 if met[0] else -1


def is_heeded(lot, ladder):
    return -1 not in [stand(ladder, each) for each in lot[1]]


def is_climbed(lot, ladder):
    return [stand(ladder, each) for each in lot[1]] == [1] * len(lot[1])


def is_barred_by(lot, ladder, row):
    if not is_heeded(lot, ladder):
        return False
    return stand(ladder, row) == -1 or stand(ladder, row) == 0 and is_climbed(lot, ladder)


def rows_lead(rows, row):
    """Whether rows lead to a row ([12]), told without the package."""
    for place, sign in enumerate(row):
        come = {each[place] for each in rows}
        if sign != 0 and sign not in come:
            return False
        if sign == 0 and len(come & {1, -1}) == 1:
            return False
    return True


def climbing(n, ladder):
    """The table of all rows that climb the ladder."""
    return (n, tuple(row for row in every_row(n) if stand(ladder, row) == 1))


def lots_refused_first(case, call, *more):
    """The call asks (lot) of its first argument ahead of the others."""
    for thing, name, what in NO_LOTS:
        case.refused(name, what, call, thing, *more)


def rows_refused(case, call, n, ahead, *behind):
    """The call asks (row), for n members, of the argument between those ahead and those behind."""
    for thing in NO_TUPLES + ((), (0,) * (n - 1), (0,) * (n + 1), (2,) * (n + 1), LONG):
        case.refused("BadRow", -1, call, *ahead, thing, *behind)
    for wrong in NO_SIGNS:
        for place in range(n):
            row = (1,) * place + (wrong,) * (n - place)
            case.refused("BadRow", place, call, *ahead, row, *behind)


def orders_refused(case, call, ahead, *behind):
    """The call asks (order), for 2 members, of the argument between those ahead and those behind."""
    orders = NO_TUPLES + ((), (0,), (0, 1, 2), (0, 2), (1, 2), (0, 0), (1, 1), (-1, 0), (0, -1), DEEP, DEEP_PAIRS, LONG)
    orders += tuple((0, wrong) for wrong in NO_SIGNS) + tuple((wrong, 0) for wrong in NO_SIGNS)
    for order in orders + tuple((wrong, 1) for wrong in NO_SIGNS) + ((False, True), (True, False)):
        case.refused("BadOrder", -1, call, *ahead, order, *behind)
