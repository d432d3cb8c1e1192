"""What the tests share: exact comparison, refusals, odd values, and lots to try."""

import random
import unittest
from itertools import combinations

from roundorlist import errors


def nested(depth, inner):
    """inner within depth tuples, each of one part."""
    thing = inner
    for _ in range(depth):
        thing = (thing,)
    return thing


DEEP = nested(50, 0)
DEEP_PAIRS = 0
for _ in range(50):
    DEEP_PAIRS = (1, DEEP_PAIRS)
LONG = (0,) * 100000
LONG_ROWS = ((1, 0),) * 30000

# What stands for no tuple, and for no number, wherever one is due.
NO_TUPLES = (None, True, False, 0, 1, -1, 7, 10 ** 999, "", "0", "01", "(0, 1)", "x" * 99999)
NO_NUMBERS = (None, True, False, "", "1", "0", (), (1,), (0, 1), DEEP, DEEP_PAIRS, LONG)
NO_MANY = NO_NUMBERS + (0, -1, 7, 8, -6, 10 ** 999, -10 ** 999)
NO_SIGNS = NO_NUMBERS + (2, -2, 7, 10 ** 999, -10 ** 999)
ODD = NO_TUPLES + NO_SIGNS + ((None,), ("",), ((),), (True,), (1, True), (1, ()), (1, ((True,),)), LONG_ROWS)


def exact(value):
    """The value with the kind of each of its parts, so that True is not 1 and a list no tuple."""
    if type(value) is tuple:
        return ("tuple", [exact(part) for part in value])
    return (type(value).__name__, value)


class Case(unittest.TestCase):

    def same(self, got, wanted):
        """got is wanted, in the kinds of all its parts, too."""
        if got is not wanted:
            self.assertEqual(exact(got), exact(wanted))

    def refused(self, name, what, call, *args, **more):
        """The call is refused by just this class with just this what."""
        with self.assertRaises(errors.Refused) as caught:
            call(*args, **more)
        self.assertIs(type(caught.exception), getattr(errors, name))
        self.same(caught.exception.what, what)

    def judged(self, judge, *args):
        """A judge says no, and raises nothing."""
        self.assertIs(judge(*args), False)


def level_of(n):
    return (0,) * n


def every_row(n):
    """All rows of n members, rising, told without the package."""
    rows = [()]
    for _ in range(n):
        rows = [row + (sign,) for row in rows for sign in (-1, 0, 1)]
    return tuple(rows)


def every_lot(n):
    """All lots of n members."""
    rows = every_row(n)
    return [(n, tuple(row for at, row in enumerate(rows) if chosen >> at & 1)) for chosen in range(1 << len(rows))]


def some_lots(n, many, most):
    """So many lots of n members, the same ones in each run, of at most so many rows."""
    chance = random.Random(1000 * n + many)
    rows = every_row(n)
    lots = []
    for at in range(many):
        lots.append((n, tuple(sorted(chance.sample(rows, at % (most + 1))))))
    return lots


def small_lots(n, most):
    """All lots of n members with at most so many rows."""
    return [(n, rows) for many in range(most + 1) for rows in combinations(every_row(n), many)]
