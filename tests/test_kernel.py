"""The kernel: ways [47], ladders [48], worlds, and what follows [49]."""

import random
import time
import unittest
from itertools import combinations, permutations, product

from common import (Case, DEEP, DEEP_PAIRS, LONG, LONG_ROWS, ODD, all_but_level, climbing, every_ladder, every_lot,
                    every_row, every_table, full_ladders, is_barred_by, is_climbed, level_of, needing_all, order_of,
                    scaled, some_lots, some_tables)
from roundorlist.bridges import bridge
from roundorlist.kernel import (bars_right, bridge_right, climbed_right, round_in_right, round_right, strike_right,
                                three_right, way_right)
from roundorlist.leading import lead_way
from roundorlist.lots import without
from roundorlist.orders import against, is_order
from roundorlist.rounds import goes_round, ladder_of, round_of
from roundorlist.strikes import bar_strike, calm_strike
from roundorlist.walking import can_lead, walk
from roundorlist.worlds import round_in

BIG = 10 ** 999
U = (2, ((0, 1), (1, 0), (1, 1)))
Q = (2, ((-1, 1), (1, -1), (1, 1)))
W = (3, ((-1, 1, 1), (1, -1, 1), (1, 1, -1)))
WW = (3, ((0, 1, 2), (1, 2, 0), (2, 0, 1), (3, 3, 3)))


# The forms and judges, told without the package.

def numbers(thing, many):
    return type(thing) is tuple and len(thing) == many and all(type(part) is int for part in thing)


def row_form(n, thing):
    return numbers(thing, n) and all(part in (-1, 0, 1) for part in thing)


def lot_form(thing, least=-1):
    if type(thing) is not tuple or len(thing) != 2 or type(thing[0]) is not int or not 1 <= thing[0] <= 6:
        return False
    n, rows = thing
    if type(rows) is not tuple or not all(row_form(n, row) for row in rows):
        return False
    return all(one < two for one, two in zip(rows, rows[1:])) and (least < 0 or level_of(n) not in rows)


def table_form(thing):
    return lot_form(thing, 1)


def ladder_form(n, thing):
    if type(thing) is not tuple or not all(numbers(part, 2) for part in thing):
        return False
    members = [member for member, _ in thing]
    return all(0 <= member < n for member in members) and len(set(members)) == len(members) and all(
        sign in (1, -1) for _, sign in thing)


def steps_in(n, rows, way):
    if type(way) is not tuple or len(way) < 2 or not all(numbers(motion, n) for motion in way):
        return False
    return all(order_of(new, old) in rows for old, new in zip(way, way[1:]))


def way_plain(lot, row, way):
    return lot_form(lot) and row_form(lot[0], row) and steps_in(*lot, way) and order_of(way[-1], way[0]) == row


def round_plain(table, way):
    return table_form(table) and steps_in(*table, way) and way[0] == way[-1]


def bridge_plain(table, one, two, way):
    return (table_form(table) and numbers(one, table[0]) and numbers(two, table[0]) and steps_in(*table, way)
            and way[0] == scaled(one) and way[-1] == scaled(two))


def three_plain(lot, way):
    return lot_form(lot) and steps_in(*lot, way) and len(way) == 3 and order_of(way[2], way[0]) not in lot[1]


def bars_plain(lot, ladder, row):
    return (lot_form(lot) and ladder_form(lot[0], ladder) and row_form(lot[0], row)
            and is_barred_by(lot, ladder, row))


def climbed_plain(table, ladder):
    return table_form(table) and ladder_form(table[0], ladder) and is_climbed(table, ladder)


def strike_plain(table, rows, ladder):
    if not table_form(table) or not lot_form((table[0], rows)) or not ladder_form(table[0], ladder):
        return False
    rest = (table[0], tuple(row for row in table[1] if row not in rows))
    return all(row in table[1] for row in rows) and is_climbed(rest, ladder)


def round_in_plain(table, world, told):
    if not table_form(table) or type(world) is not tuple or len(world) != 2:
        return False
    motions = world[1]
    if type(world[0]) is not int or world[0] != table[0]:
        return False
    if type(motions) is not tuple or not 1 <= len(motions) <= 40 or not all(numbers(part, table[0]) for part in motions):
        return False
    if type(told) is not tuple or not numbers(told, len(told)) or len(told) < 2 or len(set(told)) != len(told):
        return False
    if not all(0 <= number < len(motions) for number in told):
        return False
    return all(order_of(motions[new], motions[old]) in table[1] for old, new in zip(told, told[1:] + told[:1]))


PLAIN = {way_right: way_plain, round_right: round_plain, bridge_right: bridge_plain, three_right: three_plain,
         bars_right: bars_plain, climbed_right: climbed_plain, strike_right: strike_plain,
         round_in_right: round_in_plain}

# For each judge things that it lets.
RIGHT = {
    way_right: (
        (U, (1, 1), ((3, 5), (3, 6), (4, 6))), (W, (0, 0, 0), lead_way(W, (0, 0, 0))),
        (W, (1, 1, 1), lead_way(W, (1, 1, 1))), ((1, ((0,), (1,))), (0,), ((4,), (4,))),
        ((1, ((0,), (1,))), (1,), ((-BIG,), (BIG,), (BIG,), (BIG + 1,))),
    ),
    round_right: (
        ((2, ((-1, 1), (1, -1))), ((3, 1), (2, 2), (3, 1))), (W, round_of(W)), (needing_all(6), round_of(needing_all(6))),
        (all_but_level(1), ((0,), (5,), (1,), (0,))),
    ),
    bridge_right: (
        ((2, ((1, -1), (1, 1))), (0, 0), (1, -1), ((0, 0), (210, -421), (420, -420))),
        (W, (0, 5, 0), (0, 5, 0), bridge(W, (0, 5, 0), (0, 5, 0))), ((1, ((1,),)), (-1,), (1,), ((-420,), (7,), (420,))),
    ),
    three_right: (
        ((2, ((0, 0), (0, 1), (1, 0))), ((0, 0), (0, 1), (1, 1))), (W, ((0, 0, 0), (-1, 1, 1), (1, 2, 0))),
        ((1, ((-1,), (1,))), ((0,), (1,), (0,))),
    ),
    bars_right: (
        (U, ((0, 1), (1, 1)), (0, 0)), (U, ((1, 1),), (1, -1)), ((2, ((0, 0), (0, 1))), ((1, 1),), (0, -1)),
        ((2, ()), (), (1, 1)), ((6, ()), (), (0,) * 6),
    ),
    climbed_right: (
        (U, ((0, 1), (1, 1))), ((2, ()), ()), ((2, ((1, 0), (1, 1))), ((0, 1), (1, -1))), ((2, ()), ((1, 1),)),
    ),
    strike_right: (
        (Q, ((1, -1),), ((1, 1),)), (Q, Q[1], ()), (Q, ((-1, 1), (1, -1)), ((1, 1),)), (U, (), ((0, 1), (1, 1))),
        (W, ((-1, 1, 1),), ((0, 1),)),
    ),
    round_in_right: (
        ((1, ((-1,), (1,))), (1, ((5,), (7,))), (0, 1)), (W, WW, (0, 1, 2)), (W, WW, (2, 0, 1)),
        (W, (3, WW[1][::-1]), (3, 2, 1)),
    ),
}


def bent(thing):
    """The thing, bent at each of its places, too short and too long."""
    yield from (None, (), "", 7)
    if type(thing) is not tuple:
        yield from (thing + 1, thing - 1, -thing, True, False, None, str(thing), (thing,), thing + 420, BIG)
        return
    yield thing[::-1]
    for at, part in enumerate(thing):
        yield thing[:at] + thing[at + 1:]
        yield thing[:at] + (part,) + thing[at:]
        for other in bent(part):
            yield thing[:at] + (other,) + thing[at + 1:]
    for more in (0, (0, 0), (1, 1), thing[:1]):
        yield thing + (more,)


class KernelCase(Case):

    def check(self, judge, *things):
        self.same(judge(*things), bool(PLAIN[judge](*things)))


class Judges(KernelCase):

    def test_examples(self):
        self.same(way_right(U, (1, 1), ((3, 5), (3, 6), (4, 6))), True)
        self.same(way_right(U, (1, 1), ((3, 5),)), False)
        self.same(round_right((2, ((-1, 1), (1, -1))), ((3, 1), (2, 2), (3, 1))), True)
        self.same(round_right((2, ((-1, 1), (1, -1))), ((3, 1), (2, 2), (3, 0))), False)
        self.same(bridge_right((2, ((1, -1), (1, 1))), (0, 0), (1, -1), ((0, 0), (210, -421), (420, -420))), True)
        self.same(three_right((2, ((0, 0), (0, 1), (1, 0))), ((0, 0), (0, 1), (1, 1))), True)
        self.same(bars_right(U, ((0, 1), (1, 1)), (0, 0)), True)
        self.same(climbed_right(U, ((0, 1),)), False)
        self.same(strike_right(Q, ((1, -1),), ((1, 1),)), True)
        self.same(round_in_right((1, ((-1,), (1,))), (1, ((5,), (7,))), (0, 1)), True)

    def test_names_of_the_arguments(self):
        self.same(way_right(way=((0, 0), (0, 1)), row=(0, 1), lot=U), True)
        self.same(round_right(way=((0,), (1,), (0,)), table=all_but_level(1)), True)
        self.same(bridge_right(way=((0,), (420,)), two=(1,), one=(0,), table=(1, ((1,),))), True)
        self.same(three_right(way=((0,), (1,), (0,)), lot=all_but_level(1)), True)
        self.same(bars_right(row=(0, 0), ladder=((0, 1), (1, 1)), lot=U), True)
        self.same(climbed_right(ladder=((0, 1), (1, 1)), table=U), True)
        self.same(strike_right(ladder=((1, 1),), rows=((1, -1),), table=Q), True)
        self.same(round_in_right(numbers=(0, 1, 2), world=WW, table=W), True)

    def test_right_papers(self):
        for judge, papers in RIGHT.items():
            for things in papers:
                self.same(judge(*things), True)
                self.check(judge, *things)

    def test_papers_bent_at_each_place(self):
        for judge, papers in RIGHT.items():
            for things in papers:
                for at, thing in enumerate(things):
                    for other in bent(thing):
                        self.check(judge, *things[:at], other, *things[at + 1:])

    def test_odd_things(self):
        for judge, papers in RIGHT.items():
            for at in range(len(papers[0])):
                for odd in ODD + (DEEP_PAIRS, (2, LONG_ROWS), (1, LONG), (DEEP,), (LONG,), (2, (LONG,))):
                    self.check(judge, *papers[0][:at], odd, *papers[0][at + 1:])
            for odd in ODD:
                self.same(judge(*(odd,) * len(papers[0])), False)

    def test_other_numbers_of_members(self):
        for n in range(1, 7):
            for other in range(1, 7):
                table, one, two = all_but_level(n), (0,) * other, (1,) * other
                same = n == other
                self.same(way_right(table, two, (one, two)), same)
                self.same(way_right(table, (1,) * n, (one, two)), same)
                self.same(round_right(table, (one, two, one)), same)
                self.same(bridge_right(table, one, two, (one, scaled(two))), same)
                self.same(bridge_right(table, (0,) * n, (1,) * n, (one, scaled(two))), same)
                self.same(bridge_right(table, one, (1,) * n, ((0,) * n, (420,) * n)), same)
                self.same(bridge_right(table, (0,) * n, two, ((0,) * n, (420,) * n)), same)
                self.same(three_right(table, (one, two, one)), same)
                self.same(bars_right((n, ()), (), two), same)
                self.same(bars_right((n, ()), ((other - 1, 1),), (0,) * n), other <= n)
                self.same(climbed_right((n, ()), ((other - 1, 1),)), other <= n)
                self.same(strike_right((n, ((1,) * n,)), (two,), ()), same)
                self.same(strike_right((n, ()), (), ((other - 1, 1),)), other <= n)
                self.same(round_in_right(table, (other, (one, two)), (0, 1)), same)

    def test_ways_of_one_motion_or_none(self):
        for lot in (U, (2, every_row(2)), (2, ())):
            for way in ((), ((0, 0),)):
                self.same(way_right(lot, (0, 0), way), False)
                self.same(three_right(lot, way), False)
                if lot[1] != every_row(2):
                    self.same(round_right(lot, way), False)
                    self.same(bridge_right(lot, (0, 0), (0, 0), way), False)

    def test_level_steps(self):
        lot = (1, ((0,), (1,)))
        self.same(way_right(lot, (1,), ((0,), (0,), (1,), (1,))), True)
        self.same(way_right((1, ((1,),)), (1,), ((0,), (0,), (1,))), False)
        self.same(round_right(lot, ((0,), (0,))), False)
        self.same(bridge_right(lot, (0,), (0,), ((0,), (0,))), False)
        self.same(climbed_right((1, ((0,),)), ((0, 1),)), False)
        self.same(strike_right((1, ((0,),)), ((0,),), ((0, 1),)), False)
        self.same(round_in_right((1, ((0,),)), (1, ((5,), (5,))), (0, 1)), False)

    def test_ways_of_very_many_steps(self):
        begun = time.perf_counter()
        for many in (2, 1000, 14000):
            way = tuple((at, -at, 0, at, at, 0) for at in range(many))
            lot = (6, ((1, -1, 0, 1, 1, 0),))
            self.same(way_right(lot, lot[1][0], way), True)
            self.same(way_right(lot, lot[1][0], way[:-1] + way[:1]), False)
            self.same(way_right(all_but_level(6), lot[1][0], way), True)
            two = (1, -1, 0, 1, 1, 0)
            self.same(bridge_right(lot, (0,) * 6, two, way[:420] + (scaled(two),)), True)
            self.same(bridge_right(lot, (0,) * 6, two, way[:422] + (scaled(two),)), many < 420)
            self.same(round_right(all_but_level(6), way + way[:1]), True)
            self.same(round_right(all_but_level(6), way + way[:2]), False)
        self.same(way_right((1, ((1,),)), (1,), tuple((at,) for at in range(49000))), True)
        self.assertLess(time.perf_counter() - begun, 30)

    def test_all_small_things(self):
        motions = list(product((0, 1, 2), repeat=1))
        for lot in every_lot(1):
            for many in range(5):
                for way in product(motions, repeat=many):
                    for row in every_row(1):
                        self.check(way_right, lot, row, way)
                    self.check(round_right, lot, way)
                    self.check(three_right, lot, way)
                    self.check(bridge_right, lot, (0,), (1,), tuple(scaled(motion, 210) for motion in way))
                    self.check(round_in_right, lot, (1, ((1,), (0,), (1,))), tuple(part for part, in way))

    def test_ladders(self):
        ladders = every_ladder(2)
        for lot in some_lots(2, 60, 4):
            for ladder in ladders:
                self.check(climbed_right, lot, ladder)
                for row in every_row(2):
                    self.check(bars_right, lot, ladder, row)
                for many in range(3):
                    for rows in combinations(lot[1], many):
                        self.check(strike_right, lot, rows, ladder)
        for lot in some_lots(5, 20, 4) + some_lots(6, 20, 3):
            for ladder in (full_ladders(lot[0])[77], full_ladders(lot[0])[7][:3], walk(lot, (1,) * lot[0])[1]):
                self.check(climbed_right, lot, ladder)
                self.check(bars_right, lot, ladder, (1,) * lot[0])
                self.check(strike_right, lot, lot[1][1:], ladder)

    def test_strikes_in_another_order_and_strange_rows(self):
        for rows in (((1, 1), (-1, 1)), ((1, -1), (1, -1)), ((0, 1),), ((-1, 1), (0, 1)), ((1, 1), (1, 1)), ((0, 0),)):
            self.same(strike_right(Q, rows, ()), False)
            self.same(strike_right(Q, rows + Q[1], ()), False)
        self.same(strike_right((2, ()), ((1, 1),), ()), False)
        self.same(strike_right((2, ()), (), ()), True)

    def test_numbers_of_motions(self):
        for told in ((), (0,), (0, 0), (0, 1), (0, 1, 2, 0), (0, 2, 1), (0, 1, 3), (0, 1, 4), (-1, 0, 1), (0, 1, 2, 3),
                     (False, True, 2), (0, True, 2), (0, 1, "2"), (0, 1, None), ((0,), (1,), (2,)), (BIG, 1, 2), LONG):
            self.same(round_in_right(W, WW, told), False)
        self.same(round_in_right(W, (3, WW[1] * 10), (0, 5, 10)), True)
        self.same(round_in_right(W, (3, WW[1] * 10), (36, 37, 38)), True)
        self.same(round_in_right(W, (3, WW[1] * 10 + WW[1][:1]), (0, 5, 10)), False)
        line = (1, tuple((at,) for at in range(40)))
        self.same(round_in_right(all_but_level(1), line, tuple(range(40))), True)
        self.same(round_in_right((1, ((1,),)), line, tuple(range(40))), False)


class WhatFollows(KernelCase):

    def test_a_way_or_a_ladder_of_each_lot_and_row(self):
        lots = every_lot(1) + some_lots(2, 60, 5) + some_lots(3, 20, 6)
        for lot in lots:
            ladders = every_ladder(lot[0])
            for row in every_row(lot[0]):
                barred = any([bars_right(lot, ladder, row) for ladder in ladders])
                self.assertIs(can_lead(lot, row), not barred)
                if barred:
                    self.same(bars_right(lot, walk(lot, row)[1], row), True)
                    self.assertFalse(self.found_by_chance(lot, row))
                else:
                    self.same(way_right(lot, row, lead_way(lot, row)), True)

    def found_by_chance(self, lot, row):
        """Whether some short way is let, of heights up to 2, if the members are one or two."""
        if lot[0] > 1:
            return False
        ways = [way for many in (2, 3, 4) for way in product(((0,), (1,), (2,)), repeat=many)]
        return any([way_right(lot, row, way) for way in ways])

    def test_a_round_or_a_ladder_of_each_table(self):
        for table in every_table(1) + every_table(2) + some_tables(3, 60, 9):
            some = any([climbed_right(table, ladder) for ladder in every_ladder(table[0])])
            self.assertIs(goes_round(table), not some)
            if some:
                self.same(climbed_right(table, ladder_of(table)), True)
            else:
                self.same(round_right(table, round_of(table)), True)
        for n in (4, 5, 6):
            for table in some_tables(n, 40, 12):
                if goes_round(table):
                    self.same(round_right(table, round_of(table)), True)
                else:
                    self.same(climbed_right(table, ladder_of(table)), True)

    def test_strikes_beside_goes_round_of_the_rest(self):
        for table in every_table(1) + some_tables(2, 60, 6) + some_tables(3, 20, 5):
            ladders = every_ladder(table[0])
            for many in range(len(table[1]) + 1):
                for rows in combinations(table[1], many):
                    right = any([strike_right(table, rows, ladder) for ladder in ladders])
                    self.assertIs(right, not goes_round(without(table, (table[0], rows))))

    def test_strikes_that_are_found(self):
        for table in some_tables(3, 30, 12) + some_tables(6, 10, 40):
            rows = calm_strike(table, (1,) * len(table[1]))
            ladder = ladder_of(without(table, (table[0], rows)))
            self.same(strike_right(table, rows, ladder), True)
            row = (1,) * table[0]
            rest = without(table, (table[0], bar_strike(table, (1,) * len(table[1]), row)))
            self.same(bars_right(rest, walk(rest, row)[1], row), True)

    def test_round_in_beside_its_judge(self):
        chance = random.Random(49)
        for table in every_table(1) + every_table(2)[::5] + some_tables(3, 40, 9) + [W]:
            n = table[0]
            world = (n, tuple(tuple(chance.randrange(3) for _ in range(n)) for _ in range(chance.randrange(1, 5))))
            told = [part for many in range(2, 5) for part in permutations(range(len(world[1])), many)]
            let = [part for part in told if round_in_right(table, world, part)]
            if round_in(table, world) is None:
                self.assertEqual(let, [])
            else:
                self.assertIn(round_in(table, world), let)
                self.assertIs(goes_round(table), True)
        for table in some_tables(3, 40, 12):
            if goes_round(table):
                world = (3, round_of(table)[1:])
                self.same(round_in_right(table, world, tuple(range(len(world[1])))), True)

    def test_three_motions_beside_orders(self):
        for lot in every_lot(1) + every_lot(2)[::3] + some_lots(3, 60, 20):
            told = against(lot)
            if told is not None and told[0] == "three":
                self.same(three_right(lot, told[1]), True)
            heights = list(product(range(3), repeat=lot[0]))
            if lot[0] < 3:
                some = any([three_right(lot, (level_of(lot[0]), one, two)) for one in heights for two in heights])
                self.assertFalse(some and is_order(lot))


class Quick(KernelCase):

    def test_large_things_are_judged_quickly(self):
        begun = time.perf_counter()
        ladder = full_ladders(6)[777]
        for table in (all_but_level(6), climbing(6, ladder)):
            for _ in range(20):
                self.check(climbed_right, table, ladder)
                self.check(bars_right, table, ladder, (0,) * 6)
                self.check(strike_right, table, table[1][:400], ladder)
        self.assertLess(time.perf_counter() - begun, 30)


if __name__ == "__main__":
    unittest.main()
