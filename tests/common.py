"""What the tests share: exact comparison, refusals, odd values, and lots to try."""

import random
import unittest
from itertools import combinations, product

from roundorlist import errors


def nested(depth, inner):
    """inner within depth tuples, each of one part."""
    thing = inner
    for _ in range(depth):
        thing = (thing,)
    return thing


DEEP = nested(50, 0)
DEEP_PAIRS = 0
for _ in range(50):
    DEEP_PAIRS = (1, DEEP_PAIRS)
LONG = (0,) * 100000
LONG_ROWS = ((1, 0),) * 30000

# What stands for no tuple, and for no number, wherever one is due.
NO_TUPLES = (None, True, False, 0, 1, -1, 7, 10 ** 999, "", "0", "01", "(0, 1)", "x" * 99999)
NO_NUMBERS = (None, True, False, "", "1", "0", (), (1,), (0, 1), DEEP, DEEP_PAIRS, LONG)
NO_MANY = NO_NUMBERS + (0, -1, 7, 8, -6, 10 ** 999, -10 ** 999)
NO_SIGNS = NO_NUMBERS + (2, -2, 7, 10 ** 999, -10 ** 999)
ODD = NO_TUPLES + NO_SIGNS + ((None,), ("",), ((),), (True,), (1, True), (1, ()), (1, ((True,),)), LONG_ROWS)

# Things that are no lots, and what is told of each.
NO_LOTS = tuple((thing, "BadLot", -1) for thing in NO_TUPLES) + (
    ((), "BadLot", -1),
    ((1,), "BadLot", -1),
    ((0,), "BadLot", -1),
    ((1, (), ()), "BadLot", -1),
    ((0, (), ()), "BadLot", -1),
    (DEEP, "BadLot", -1),
    (LONG, "BadLot", -1),
    (LONG_ROWS, "BadLot", -1),
    (DEEP_PAIRS, "BadLot", 0),
    (((1,), ()), "BadMany", (1,)),
    ((0, ()), "BadMany", 0),
    ((7, ()), "BadMany", 7),
    ((True, ()), "BadMany", True),
    ((None, None), "BadMany", None),
    ((0, None), "BadMany", 0),
    ((7, ((7,),)), "BadMany", 7),
    ((1, None), "BadLot", -1),
    ((1, 0), "BadLot", -1),
    ((1, False), "BadLot", -1),
    ((1, "0"), "BadLot", -1),
    ((6, 6), "BadLot", -1),
    ((1, LONG), "BadLot", 0),
    ((2, LONG_ROWS), "BadLot", 1),
    ((1, (0, 1)), "BadLot", 0),
    ((1, ((True,),)), "BadLot", 0),
    ((1, ((False,), (1,))), "BadLot", 0),
    ((1, ((0,), (True,))), "BadLot", 1),
    ((2, ((0, 1), (1, 2))), "BadLot", 1),
    ((2, ((0, 1), (1,))), "BadLot", 1),
    ((2, ((0, 1), (1, 0, 0))), "BadLot", 1),
    ((2, ((0, 1), None)), "BadLot", 1),
    ((2, ((0, 1), "10")), "BadLot", 1),
    ((2, ((0, 1), ())), "BadLot", 1),
    ((2, ((), (0, 1))), "BadLot", 0),
    ((2, ((0, 1), DEEP)), "BadLot", 1),
    ((2, ((0, 1), (1, DEEP))), "BadLot", 1),
    ((2, ((0, 1), (0, 1))), "BadLot", 1),
    ((2, ((1, 1), (0, 1))), "BadLot", 1),
    ((2, ((-1, 0), (0, 1), (0, 1), (1, 1))), "BadLot", 2),
    ((2, ((-1, 0), (0, 1), (0, 0), (1, 1))), "BadLot", 2),
    ((2, ((-1, 0), (0, 1), (0, 0), (7, 1))), "BadLot", 2),
    ((2, ((-1, 0), (0, 7), (0, 0), (0, 0))), "BadLot", 1),
    ((1, ((1,), (0,), (-1,))), "BadLot", 1),
    ((1, ((0,), (0,))), "BadLot", 1),
)

# Things that are no tables, and what is told of each; where a level row stands ahead of the fault it is told.
NO_TABLES = tuple(
    (thing, {"BadLot": "BadTable"}.get(name, name), what) for thing, name, what in NO_LOTS
    if thing not in ((1, ((0,), (True,))), (1, ((0,), (0,))))
) + (
    ((1, ((0,),)), "BadTable", 0),
    ((1, ((0,), (True,))), "BadTable", 0),
    ((1, ((False,), (1,))), "BadTable", 0),
    ((1, ((0,), (0,))), "BadTable", 0),
    ((1, ((-1,), (0,), (1,))), "BadTable", 1),
    ((2, ((-1, 0), (0, 0), (0, 0))), "BadTable", 1),
    ((2, ((-1, 0), (0, 0), (7, 0))), "BadTable", 1),
    ((2, ((-1, 0), (7, 0), (0, 0))), "BadTable", 1),
    ((6, ((-1, 0, 0, 0, 0, 0), (0, 0, 0, 0, 0, 0))), "BadTable", 1),
)

# Parts that can stand on no ladder of two members.
NO_RUNGS = (
    (), (0,), (0, 1, 1), (0, 0), (0, 2), (0, -2), (2, 1), (-1, 1), (6, 1), (10 ** 999, 1), (0, 10 ** 999), (0, None),
    (None, 1), (True, 1), (False, 1), (0, True), (0, False), ("0", 1), (0, "1"), ((0,), 1), (0, (1,)), (DEEP, 1),
    (0, DEEP), (LONG, 1), None, True, False, 0, 1, "", "01", DEEP, DEEP_PAIRS, LONG,
)

# Tuples that are no ladders of two members.
BAD_LADDERS = tuple((part,) for part in NO_RUNGS) + tuple(((1, -1), part) for part in NO_RUNGS) + (
    ((0, 1), (0, 1)), ((0, 1), (0, -1)), ((0, 1), (1, 1), (0, 1)), ((0, 1),) * 50000,
)


def exact(value):
    """The value with the kind of each of its parts, so that True is not 1 and a list no tuple."""
    if type(value) is tuple:
        return ("tuple", [exact(part) for part in value])
    return (type(value).__name__, value)


class Case(unittest.TestCase):

    def same(self, got, wanted):
        """got is wanted, in the kinds of all its parts, too."""
        if got is not wanted:
            self.assertEqual(exact(got), exact(wanted))

    def refused(self, name, what, call, *args, **more):
        """The call is refused by just this class with just this what."""
        with self.assertRaises(errors.Refused) as caught:
            call(*args, **more)
        self.assertIs(type(caught.exception), getattr(errors, name))
        self.same(caught.exception.what, what)

    def judged(self, judge, *args):
        """A judge says no, and raises nothing."""
        self.assertIs(judge(*args), False)


def level_of(n):
    return (0,) * n


def every_row(n):
    """All rows of n members, rising, told without the package."""
    rows = [()]
    for _ in range(n):
        rows = [row + (sign,) for row in rows for sign in (-1, 0, 1)]
    return tuple(rows)


def every_lot(n):
    """All lots of n members."""
    rows = every_row(n)
    return [(n, tuple(row for at, row in enumerate(rows) if chosen >> at & 1)) for chosen in range(1 << len(rows))]


def some_lots(n, many, most):
    """So many lots of n members, the same ones in each run, of at most so many rows."""
    chance = random.Random(1000 * n + many)
    rows = every_row(n)
    lots = []
    for at in range(many):
        lots.append((n, tuple(sorted(chance.sample(rows, at % (most + 1))))))
    return lots


def small_lots(n, most):
    """All lots of n members with at most so many rows."""
    return [(n, rows) for many in range(most + 1) for rows in combinations(every_row(n), many)]


def every_ladder(n):
    """All ladders of n members, () ahead."""
    ladders = [()]
    # The list grows while it is gone over, until the ladders of all members are reached.
    for ladder in ladders:
        held = [member for member, _ in ladder]
        ladders += [ladder + ((member, sign),) for member in range(n) if member not in held for sign in (-1, 1)]
    return ladders


def stand(ladder, row):
    """0, 1 or -1, as the row is level on the ladder, climbs it or falls on it ([9]), told without the package."""
    met = [row[member] == sign for member, sign in ladder if row[member] != 0]
    if not met:
        return 0
    return 1 if met[0] else -1


def is_heeded(lot, ladder):
    return -1 not in [stand(ladder, each) for each in lot[1]]


def is_climbed(lot, ladder):
    return [stand(ladder, each) for each in lot[1]] == [1] * len(lot[1])


def is_barred_by(lot, ladder, row):
    if not is_heeded(lot, ladder):
        return False
    return stand(ladder, row) == -1 or stand(ladder, row) == 0 and is_climbed(lot, ladder)


def rows_lead(rows, row):
    """Whether rows lead to a row ([12]), told without the package."""
    for place, sign in enumerate(row):
        come = {each[place] for each in rows}
        if sign != 0 and sign not in come:
            return False
        if sign == 0 and len(come & {1, -1}) == 1:
            return False
    return True


def climbing(n, ladder):
    """The table of all rows that climb the ladder."""
    return (n, tuple(row for row in every_row(n) if stand(ladder, row) == 1))


def needing_all(n):
    """A lot of n + 1 rows that can lead to the level row by no fewer than all."""
    units = [(0,) * at + (1,) + (0,) * (n - at - 1) for at in range(n)]
    return (n, tuple(sorted([(-1,) * n] + units)))


def order_of(new, old):
    """The row of two motions, told without the package."""
    return tuple((one > two) - (one < two) for one, two in zip(new, old))


def every_table(n):
    """All tables of n members."""
    return [lot for lot in every_lot(n) if level_of(n) not in lot[1]]


def some_tables(n, many, most):
    """So many tables of n members, the same ones in each run, of at most so many rows and the level one."""
    return [(n, tuple(row for row in rows if any(row))) for _, rows in some_lots(n, many, most)]


def all_but_level(n):
    """The table of all rows but the level one."""
    return (n, tuple(row for row in every_row(n) if any(row)))


def is_tight(table, ladder):
    """Whether a ladder is tight ([19]), told without the package."""
    for at, (member, sign) in enumerate(ladder):
        ahead = [held for held, _ in ladder[:at]]
        if not any(row[member] == sign and not any(row[held] for held in ahead) for row in table[1]):
            return False
    return is_climbed(table, ladder)


def tight_ladders(table):
    """All tight ladders of a table in their order ([20]), told without the package."""
    found = [ladder for ladder in every_ladder(table[0]) if is_tight(table, ladder)]
    return sorted(found, key=lambda ladder: [member for member, _ in ladder])


def full_ladders(n):
    """All ladders with all n members on them."""
    return [ladder for ladder in every_ladder(n) if len(ladder) == n]


def summed(one, two):
    """All rows of the sum of two rows ([3]), told without the package."""
    places = [(-1, 0, 1) if here * there == -1 else (here or there,) for here, there in zip(one, two)]
    return list(product(*places))


def closed(lot):
    """The lot's rows with all rows of sums of them, and of sums of these, and so on."""
    rows = set(lot[1])
    new = rows
    while new:
        new = {row for one in rows for two in rows for row in summed(one, two)} - rows
        rows |= new
    return rows


def is_way_by(lot, way):
    """Whether a way of tuples of ints begins with heights of 0, and all its steps are rows of the lot ([14])."""
    plain = type(way) is tuple and all(type(motion) is tuple for motion in way)
    if not plain or not all(type(height) is int for motion in way for height in motion):
        return False
    steps = [order_of(new, old) for old, new in zip(way, way[1:])]
    return way[0] == level_of(lot[0]) and len(steps) > 0 and set(steps) <= set(lot[1])


def lots_refused_first(case, call, *more):
    """The call asks (lot) of its first argument ahead of the others."""
    for thing, name, what in NO_LOTS:
        case.refused(name, what, call, thing, *more)


def tables_refused_first(case, call, *more):
    """The call asks (table) of its first argument ahead of the others."""
    for thing, name, what in NO_TABLES:
        case.refused(name, what, call, thing, *more)


def two_lots_refused_first(case, call, *more):
    """The call asks (lot), of its first argument and then of its second one, and (unlike) ahead of the others."""
    for thing, name, what in NO_LOTS:
        case.refused(name, what, call, thing, (1, ()), *more)
        case.refused(name, what, call, thing, None, *more)
        case.refused(name, what, call, (2, ((0, 1),)), thing, *more)
        case.refused(name, what, call, (6, ()), thing, *more)
    for one in range(1, 7):
        for two in range(1, 7):
            if one != two:
                case.refused("Unlike", 0, call, (one, ()), (two, ()), *more)
                case.refused("Unlike", 0, call, (one, every_row(one)), (two, every_row(two)), *more)


def rows_refused(case, call, n, ahead, *behind):
    """The call asks (row), for n members, of the argument between those ahead and those behind."""
    for thing in NO_TUPLES + ((), (0,) * (n - 1), (0,) * (n + 1), (2,) * (n + 1), LONG):
        case.refused("BadRow", -1, call, *ahead, thing, *behind)
    for wrong in NO_SIGNS:
        for place in range(n):
            row = (1,) * place + (wrong,) * (n - place)
            case.refused("BadRow", place, call, *ahead, row, *behind)


def orders_refused(case, call, ahead, *behind):
    """The call asks (order), for 2 members, of the argument between those ahead and those behind."""
    orders = NO_TUPLES + ((), (0,), (0, 1, 2), (0, 2), (1, 2), (0, 0), (1, 1), (-1, 0), (0, -1), DEEP, DEEP_PAIRS, LONG)
    orders += tuple((0, wrong) for wrong in NO_SIGNS) + tuple((wrong, 0) for wrong in NO_SIGNS)
    for order in orders + tuple((wrong, 1) for wrong in NO_SIGNS) + ((False, True), (True, False)):
        case.refused("BadOrder", -1, call, *ahead, order, *behind)


def ladders_refused(case, call, ahead, *behind):
    """The call asks (ladder), for 2 members, of the argument between those ahead and those behind."""
    for thing in NO_TUPLES:
        case.refused("BadLadder", -1, call, *ahead, thing, *behind)
    for part in NO_RUNGS:
        case.refused("BadLadder", 0, call, *ahead, (part,), *behind)
        case.refused("BadLadder", 1, call, *ahead, ((1, -1), part), *behind)
        case.refused("BadLadder", 2, call, *ahead, ((1, -1), (0, 1), part), *behind)
        case.refused("BadLadder", 0, call, *ahead, (part, part, part), *behind)
        case.refused("BadLadder", 1, call, *ahead, ((1, 1), part, (1, 1)), *behind)
    for again in (((0, 1), (0, 1)), ((0, 1), (0, -1)), ((0, 1), (0, 1), (7, 7)), ((1, 1), (1, -1), (0, 1))):
        case.refused("BadLadder", 1, call, *ahead, again, *behind)
    case.refused("BadLadder", 2, call, *ahead, ((0, 1), (1, 1), (0, 1)), *behind)
    case.refused("BadLadder", 2, call, *ahead, ((0, 1), (1, 1), (1, -1)), *behind)
    case.refused("BadLadder", 1, call, *ahead, ((0, 1),) * 50000, *behind)
    case.refused("BadLadder", 0, call, *ahead, LONG, *behind)


def rows_wrong(case, call, n, *behind):
    """The call asks (n) and then (rows), of its first two arguments."""
    for many in NO_MANY:
        case.refused("BadMany", many, call, many, ((0,),), *behind)
        case.refused("BadMany", many, call, many, None, *behind)
    good = (1,) * n
    for thing in NO_TUPLES + ((), (good,) * 15, (None,) * 15, LONG):
        case.refused("BadRows", -1, call, n, thing, *behind)
    for part in ((1,) * (n - 1), (1,) * (n + 1), (True,) * n, (2,) * n, None, 1, True, "1" * n, (), DEEP, LONG):
        for index in (0, 1, 13):
            case.refused("BadRows", index, call, n, (good,) * index + (part,) * (14 - index), *behind)


def motions_refused(case, call, n, ahead, *behind):
    """The call asks (motion), for n members, of the argument between those ahead and those behind."""
    for thing in NO_TUPLES + ((), (0,) * (n - 1), (0,) * (n + 1), (None,) * (n + 1), LONG, LONG_ROWS):
        case.refused("BadMotion", -1, call, *ahead, thing, *behind)
    for wrong in NO_NUMBERS:
        for place in range(n):
            case.refused("BadMotion", place, call, *ahead, (9,) * place + (wrong,) * (n - place), *behind)


def scaled(motion, times=420):
    """The motion with so many times its heights."""
    return tuple(times * height for height in motion)


def bridge_told(n, rows, one, two):
    """The motions of a bridge, word for word as [40] tells them, but for its first one."""
    columns = []
    for place in range(n):
        apart, steps = two[place] - one[place], [row[place] for row in rows]
        s = (apart > 0) - (apart < 0)
        columns.append(fine_heights(apart, s, steps, 420 * one[place]))
    return [tuple(column[at] for column in columns) for at in range(len(rows))]


def fine_heights(apart, s, steps, height):
    p, q, k = steps.count(s), steps.count(-s), len(steps)
    start, heights = height, []
    moving = [at for at, step in enumerate(steps) if step != 0]
    for at, step in enumerate(steps):
        if s != 0 and step != 0:
            height += s * (420 * abs(apart) // p + q) if step == s else -s * p
        elif step != 0 and at == moving[-1]:
            height = start
        elif step != 0:
            a = steps[moving[-1]]
            height += a if step == a else -a * k
        heights.append(height)
    return heights


# What is no text, and what BadText tells of it and of texts that cannot be read.
NO_TEXTS = tuple((thing, -1) for thing in (None, True, False, 0, 1, -1, 10 ** 999, (), ("",), ("a",), DEEP, LONG)) + (
    ("\n", 0), ("\x1f", 0), ("\x7f", 0), ("\t0", 0), ("stands 0;\n", 9), ("+\x00", 1), ("a\x7fb\x1f", 1),
    ("members \xe4; wins if a over", 8), ("\u0661", 0), ("\ud800", 0), ("x" * 19999 + "\x1f", 19999),
    ("x" * 20000 + "\x1f", 20000), ("x" * 20001, 20000), (" " * 100000, 20000), ("x\n" * 20000, 1),
)


def texts_refused(case, call, ahead):
    """The call asks (text) of the argument behind those ahead."""
    for thing, what in NO_TEXTS:
        case.refused("BadText", what, call, *ahead, thing)


def spoilt(chance, text, signs, many):
    """So many texts, each with one sign more, fewer or another one than this one."""
    texts = []
    for _ in range(many):
        at, sign = chance.randrange(len(text) + 1), chance.choice(signs)
        texts.append(text[:at] + chance.choice((sign, "")) + text[at + chance.randrange(2):])
    return texts


NAMES_KEPT = (
    "members", "chamber", "wins", "if", "or", "and", "not", "over", "level", "under", "of", "none", "up", "down",
)

# Things that are no names, and what BadNames tells of each.
NO_NAMES = tuple((thing, -1) for thing in (None, True, False, 0, 1, "", "a", "a, b", (), tuple("abcdefg"), LONG)) + tuple(
    ((name,), 0) for name in NAMES_KEPT + (
        "", "A", "aB", "0", "1a", " a", "a ", "a b", "a_b", "_a", "a-b", "\xe4", "a\xe4", "\u0430", "a\u0661", "a\n",
        "a" * 13, "a1" * 7, "a" * 99999, None, 0, 1, True, (), ("a",), DEEP, LONG)
) + (
    (("a", "up"), 1), (("a", "b", "a"), 2), (("a", "a"), 1), (("a", "b", "c", "d", "e", "a"), 5), (("a", None, "a"), 1),
    (("up", "up"), 0), (("a", "b", "b", "A"), 2), (DEEP_PAIRS, 0),
)


def names_refused(case, call, *behind):
    """The call asks (names) of its first argument."""
    for thing, what in NO_NAMES:
        case.refused("BadNames", what, call, thing, *behind)


def words_told(text):
    """The words of a text with their places, and its end, told without the package."""
    words, place = [], 0
    while place < len(text):
        begin = place
        while place < len(text) and text[place] in "abcdefghijklmnopqrstuvwxyz0123456789":
            place += 1
        if place == begin:
            place += 1
        if text[begin] != " ":
            words.append((text[begin:place], begin))
    return words + [("", len(text))]


def name_told(word):
    """Whether a word is a name, told without the package."""
    return word != "" and word[0] in "abcdefghijklmnopqrstuvwxyz" and len(word) <= 12 and word not in NAMES_KEPT
