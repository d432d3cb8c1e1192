"""Bridges in fine heights [40], and bridges by wins [41]."""

import random
import time
import unittest
from itertools import product

from common import (Case, DEEP, LONG, NO_MANY, all_but_level, bridge_told, climbing, every_row, every_table,
                    full_ladders, level_of, motions_refused, needing_all, order_of, rows_lead, rows_wrong, scaled,
                    some_tables, tables_refused_first)
from roundorlist.bridges import bridge, bridge_of
from roundorlist.kernel import bridge_right
from roundorlist.leading import way_of
from roundorlist.rounds import goes_round
from roundorlist.walking import can_lead

BIG = 10 ** 999
W = (3, ((-1, 1, 1), (1, -1, 1), (1, 1, -1)))


def moved(one, row, by):
    """A motion that stands to one as the row tells, each height moved by so much."""
    return tuple(height + sign * by for height, sign in zip(one, row))


class BridgeOf(Case):

    def test_examples(self):
        self.same(bridge_of(2, ((1, -1), (1, 1)), (0, 0), (1, -1)), ((0, 0), (210, -421), (420, -420)))
        self.same(bridge_of(2, ((-1, 1), (1, -1)), (3, 5), (3, 5)), ((1260, 2100), (1258, 2102), (1260, 2100)))

    def test_names_of_the_arguments(self):
        self.same(bridge_of(two=(1, -1), one=(0, 0), rows=((1, -1), (1, 1)), n=2), ((0, 0), (210, -421), (420, -420)))

    def check(self, n, rows, one, two):
        """The bridge beside a plain reckoning, or the refusal where the rows do not lead."""
        if not rows_lead(rows, order_of(two, one)):
            self.refused("NotLed", 0, bridge_of, n, rows, one, two)
            return 0
        got = bridge_of(n, rows, one, two)
        self.same(got, (scaled(one),) + tuple(bridge_told(n, rows, one, two)))
        self.same(got[-1], scaled(two))
        self.same(tuple(order_of(new, old) for old, new in zip(got, got[1:])), rows)
        return 1

    def test_one_member(self):
        for many in range(1, 6):
            for rows in product(every_row(1), repeat=many):
                for one, two in ((0, 0), (0, 1), (1, 0), (5, -7), (-7, 5), (-3, -3)):
                    self.check(1, rows, (one,), (two,))

    def test_two_members(self):
        done = 0
        for many in (1, 2, 3):
            for rows in product(every_row(2), repeat=many):
                for row in every_row(2):
                    done += self.check(2, rows, (4, -9), moved((4, -9), row, 13))
        self.assertGreater(done, 1000)

    def test_rows_in_any_order_and_more_than_once(self):
        chance = random.Random(40)
        done = 0
        for n in (3, 4, 5, 6):
            for at in range(1500):
                one = tuple(chance.randrange(-20, 21) for _ in range(n))
                two = tuple(chance.choice((height, height + chance.randrange(-5, 6))) for height in one)
                rows = tuple(tuple(chance.choice((-1, 0, 1)) for _ in range(n)) for _ in range(1 + at % 7))
                done += self.check(n, rows, one, two)
        self.assertGreater(done, 300)

    def test_one_row(self):
        for n in range(1, 7):
            for row in every_row(n):
                one = tuple(range(-3, n - 3))
                self.same(bridge_of(n, (row,), one, moved(one, row, 2)), (scaled(one), scaled(moved(one, row, 2))))

    def test_each_number_of_steps_up_to_seven_parts_evenly(self):
        for many in range(1, 8):
            got = bridge_of(2, ((1, -1),) * many, (3, 3), (4, 2))
            self.assertEqual([motion[0] for motion in got], [1260 + 420 // many * at for at in range(many + 1)])
            self.same(got[-1], (1680, 840))
            for contrary in range(1, 8 - many):
                self.check(1, ((1,),) * many + ((-1,),) * contrary, (-2,), (11,))
                self.check(1, ((-1,),) * contrary + ((1,),) * many, (-2,), (11,))

    def test_more_than_seven_rows(self):
        for many in range(8, 15):
            self.refused("TooMany", many, bridge_of, 1, ((1,),) * many, (0,), (1,))
            self.refused("TooMany", many, bridge_of, 1, ((1,),) * many, (0,), (0,))
            self.refused("TooMany", many, bridge_of, 6, ((1,) * 6,) * many, (0,) * 6, (-1,) * 6)
        self.refused("BadRows", -1, bridge_of, 1, ((1,),) * 15, (0,), (1,))
        self.refused("NotLed", 0, bridge_of, 1, ((1,),) * 7, (0,), (0,))
        self.assertEqual(len(bridge_of(1, ((1,),) * 7, (0,), (1,))), 8)

    def test_no_difference(self):
        self.same(bridge_of(1, ((0,),) * 3, (7,), (7,)), ((2940,),) * 4)
        self.same(bridge_of(1, ((1,), (0,), (-1,), (0,)), (7,), (7,)), ((2940,), (2944,), (2944,), (2940,), (2940,)))
        self.same(bridge_of(1, ((-1,), (1,), (1,), (-1,), (1,)), (-1,), (-1,)),
                  ((-420,), (-425,), (-424,), (-423,), (-428,), (-420,)))

    def test_no_difference_moves_as_ways_do(self):
        for many in (1, 2, 3, 4):
            for rows in product(((-1, -1), (0, 0), (1, 1), (1, -1)), repeat=many):
                if rows_lead(rows, (0, 0)):
                    way = way_of(2, rows, (0, 0))
                    got = bridge_of(2, rows, (5, -6), (5, -6))
                    self.same(got, tuple((2100 + here, there - 2520) for here, there in way))

    def test_heights_of_many_figures(self):
        for one, two in (((BIG, -BIG), (-BIG, BIG)), ((BIG, -BIG), (BIG + 1, -BIG)), ((-BIG, 0), (-BIG, -1))):
            for rows in product(every_row(2), repeat=3):
                self.check(2, rows, one, two)

    def test_what_is_asked_in_order(self):
        rows_wrong(self, bridge_of, 2, (0, 0), (1, 1))
        rows_wrong(self, bridge_of, 3, None, None)
        for n in range(1, 7):
            good, rows = (0,) * n, ((1,) * n,)
            motions_refused(self, bridge_of, n, (n, rows), good)
            motions_refused(self, bridge_of, n, (n, rows * 8), None)
            motions_refused(self, bridge_of, n, (n, rows * 8, good))
        self.refused("TooMany", 8, bridge_of, 1, ((1,),) * 8, (0,), (-1,))
        self.refused("NotLed", 0, bridge_of, 1, ((1,),), (0,), (-1,))
        self.refused("NotLed", 0, bridge_of, 1, ((1,),), (0,), (0,))
        self.refused("NotLed", 0, bridge_of, 1, ((0,),), (0,), (1,))
        self.refused("BadMotion", 0, bridge_of, 1, ((1,),), (DEEP,), (LONG,))

    def test_equal_calls_behind_refused_ones(self):
        for _ in range(2):
            self.refused("NotLed", 0, bridge_of, 2, ((1, -1), (1, 1)), (0, 0), (1, -1)[::-1])
            self.test_examples()


class Bridge(Case):

    def check(self, table, one, two):
        """A bridge beside can_lead, bridge_right and the numbers of steps."""
        row = order_of(two, one)
        if not can_lead(table, row):
            self.refused("Barred", 0, bridge, table, one, two)
            return
        way = bridge(table, one, two)
        self.same(bridge(table, one, two), way)
        self.same((way[0], way[-1]), (scaled(one), scaled(two)))
        self.assertLessEqual(len(way) - 1, table[0] if any(row) else table[0] + 1)
        self.assertLessEqual({order_of(new, old) for old, new in zip(way, way[1:])}, set(table[1]))
        self.assertIs(bridge_right(table, one, two, way), True)
        self.assertEqual({type(height) for motion in way for height in motion}, {int})

    def test_tables(self):
        for table in every_table(1) + every_table(2):
            for row in every_row(table[0]):
                one = (3, -2)[:table[0]]
                self.check(table, one, moved(one, row, 5))
        for n in (3, 4, 5):
            for table in some_tables(n, 40, 9):
                for row in every_row(n):
                    self.check(table, level_of(n), row)

    def test_names_of_the_arguments(self):
        way = bridge(two=(1, 0, 0), one=(0, 1, 1), table=W)
        self.assertIs(bridge_right(W, (0, 1, 1), (1, 0, 0), way), True)

    def test_two_equal_motions(self):
        for table in every_table(2) + some_tables(3, 60, 9):
            one = (4, 4, -4)[:table[0]]
            if goes_round(table):
                self.check(table, one, one)
            else:
                self.refused("Barred", 0, bridge, table, one, one)

    def test_as_many_steps_as_may_be_needed(self):
        for n in range(1, 7):
            table = needing_all(n)
            self.check(table, level_of(n), level_of(n))
            self.assertEqual(len(bridge(table, (9,) * n, (9,) * n)), n + 2)

    def test_no_rows(self):
        for n in range(1, 7):
            for two in (level_of(n), (1,) * n):
                self.refused("Barred", 0, bridge, (n, ()), level_of(n), two)

    def test_heights_below_nought_and_of_many_figures(self):
        for one, two in (((-1, -5, -9), (-9, -5, -1)), ((BIG, -BIG, 0), (-BIG, BIG, 0)), ((-BIG,) * 3, (-BIG,) * 3)):
            self.check(W, one, two)
            self.check(all_but_level(3), one, two)

    def test_what_is_asked_in_order(self):
        tables_refused_first(self, bridge, (0,), (1,))
        tables_refused_first(self, bridge, None, None)
        for n in range(1, 7):
            motions_refused(self, bridge, n, ((n, ()),), level_of(n))
            motions_refused(self, bridge, n, ((n, ()),), None)
            motions_refused(self, bridge, n, ((n, ()), level_of(n)))
        self.refused("BadTable", 0, bridge, (1, ((0,),)), (0,), (0,))
        for many in NO_MANY:
            self.refused("BadMany", many, bridge, (many, ()), (0,), (0,))

    def test_large_tables_are_told_quickly(self):
        begun = time.perf_counter()
        for table in (all_but_level(6), climbing(6, full_ladders(6)[777]), needing_all(6)):
            for row in every_row(6)[::17] + ((0,) * 6,):
                self.check(table, (BIG,) * 6, moved((BIG,) * 6, row, BIG))
        self.assertLess(time.perf_counter() - begun, 30)


if __name__ == "__main__":
    unittest.main()
