"""The walk [10] and what it tells [11]."""

import unittest
from itertools import permutations

from common import (Case, climbing, closed, every_ladder, every_lot, every_row, is_barred_by, is_heeded, level_of,
                    lots_refused_first, orders_refused, rows_refused, small_lots, some_lots, stand)
from roundorlist.ladders import bars, heeds
from roundorlist.walking import can_lead, walk, walk_by

U = (2, ((0, 1), (1, 0), (1, 1)))
V = (3, ((0, 1, 1), (1, -1, 1), (1, 0, 1), (1, 1, -1), (1, 1, 0), (1, 1, 1)))


def walk_told(lot, row, order):
    """The walk, word for word as [10] tells it."""
    ladder = ()
    while True:
        left = [each for each in lot[1] if stand(ladder, each) == 0]
        if not left or stand(ladder, row) == -1:
            return ("barred", ladder)
        can = []
        for member in order:
            if member not in [held for held, _ in ladder] and row[member] != 1 and \
                    not any(each[member] == -1 for each in left):
                can.append((member, 1))
            if member not in [held for held, _ in ladder] and row[member] != -1 and \
                    not any(each[member] == 1 for each in left):
                can.append((member, -1))
        if not can:
            return ("led", ladder)
        ladder += (can[0],)


class Walk(Case):

    def check(self, lot):
        """All walks of a lot: as [10] tells them, and true to what [11] says of them."""
        n = lot[0]
        for row in every_row(n):
            word = walk_told(lot, row, range(n))[0]
            self.same(walk(lot, row), walk_told(lot, row, range(n)))
            self.assertIs(can_lead(lot, row), word == "led")
            for order in permutations(range(n)):
                got = walk_by(lot, row, order)
                self.same(got, walk_told(lot, row, order))
                self.assertEqual(got[0], word)
                if word == "barred":
                    self.check_ladder(lot, row, got[1])

    def check_ladder(self, lot, row, ladder):
        self.assertIs(heeds(lot, ladder), True)
        self.assertIs(bars(lot, ladder, row), True)
        self.assertTrue(is_heeded(lot, ladder) and is_barred_by(lot, ladder, row))
        if stand(ladder, row) == -1:
            self.assertEqual(stand(ladder[:-1], row), 0)

    def test_examples(self):
        self.same(walk(U, (0, 0)), ("barred", ((0, 1), (1, 1))))
        self.same(walk_by(U, (0, 0), (1, 0)), ("barred", ((1, 1), (0, 1))))
        self.same(walk(U, (1, -1)), ("barred", ((1, 1),)))
        self.same(walk(U, (1, 1)), ("led", ()))
        self.same(walk(V, (1, -1, -1)), ("led", ()))
        self.same(walk(V, (0, 1, -1)), ("barred", ((0, 1), (2, 1))))
        self.assertIs(can_lead(U, (1, 1)), True)
        self.assertIs(can_lead(U, (0, 0)), False)

    def test_names_of_the_arguments(self):
        self.same(walk(row=(1, -1), lot=U), ("barred", ((1, 1),)))
        self.same(walk_by(order=(1, 0), row=(0, 0), lot=U), ("barred", ((1, 1), (0, 1))))
        self.assertIs(can_lead(row=(1, 1), lot=U), True)

    def test_the_empty_lot(self):
        for n in range(1, 7):
            for row in every_row(n)[::3]:
                self.same(walk((n, ()), row), ("barred", ()))
                self.same(walk_by((n, ()), row, tuple(reversed(range(n)))), ("barred", ()))
                self.assertIs(can_lead((n, ()), row), False)

    def test_the_level_row_in_the_lot(self):
        for n in range(1, 7):
            flat = (n, (level_of(n),))
            self.same(walk(flat, level_of(n)), ("led", tuple((member, 1) for member in range(n))))
            self.same(walk(flat, (1,) + (0,) * (n - 1)), ("barred", ((0, -1),)))
        self.same(walk((1, ((0,),)), (1,)), ("barred", ((0, -1),)))
        self.same(walk((1, ((0,),)), (-1,)), ("barred", ((0, 1),)))
        self.same(walk((1, ((0,), (1,))), (0,)), ("led", ((0, 1),)))
        self.same(walk((2, ((0, 0), (0, 1))), (0, 0)), ("led", ((0, 1), (1, 1))))
        self.same(walk_by((2, ((0, 0), (0, 1))), (0, 0), (1, 0)), ("led", ((1, 1), (0, 1))))

    def test_one_is_put_ahead_of_minus_one(self):
        self.same(walk((2, ((0, 1),)), (0, 1)), ("led", ((0, 1),)))
        self.same(walk((2, ((0, 1),)), (-1, 1)), ("barred", ((0, 1),)))
        self.same(walk((2, ((0, 1),)), (1, 1)), ("barred", ((0, -1),)))
        self.same(walk((2, ((0, -1),)), (0, 0)), ("barred", ((0, 1), (1, -1))))

    def test_members_that_are_0_in_all_rows(self):
        lot = (4, ((0, 1, 0, 0), (0, 1, 0, 1)))
        self.same(walk(lot, (0, 1, 0, 1)), ("led", ((0, 1), (2, 1))))
        self.same(walk(lot, (0, 1, 1, 1)), ("barred", ((0, 1), (2, -1))))
        self.same(walk_by(lot, (1, 1, 1, 1), (3, 2, 1, 0)), ("barred", ((2, -1),)))

    def test_all_lots_of_one_and_two_members(self):
        for lot in every_lot(1) + every_lot(2):
            self.check(lot)

    def test_lots_of_three_members(self):
        for lot in small_lots(3, 2)[::9] + some_lots(3, 24, 7):
            self.check(lot)

    def test_each_order_of_six_members(self):
        lot = (6, ((0, 0, 0, 0, 0, 1), (0, 0, 0, 0, 1, -1), (0, 0, 0, 1, -1, 1), (1, 0, 1, 1, 0, 0), (1, 1, -1, 0, 0, 0)))
        for row in ((0, 0, 0, 0, 0, 0), (1, 0, 0, 0, 0, -1), (0, 0, 0, 0, 0, -1), (1, 1, 1, 1, -1, -1)):
            word = walk(lot, row)[0]
            for order in permutations(range(6)):
                got = walk_by(lot, row, order)
                self.same(got, walk_told(lot, row, order))
                self.assertEqual(got[0], word)

    def test_all_ladders_of_all_rows(self):
        for n in (3, 6):
            for row in every_row(n)[::5]:
                self.same(walk((n, every_row(n)), row), ("led", ()))
        for ladder in every_ladder(3):
            table = climbing(3, ladder)
            for row in every_row(3):
                self.assertIs(can_lead(table, row), stand(ladder, row) == 1)

    def test_climbing_rows_of_six_members(self):
        ladder = ((3, 1), (0, -1), (5, 1), (1, 1), (4, -1), (2, 1))
        table = climbing(6, ladder)
        for row in every_row(6):
            self.assertIs(can_lead(table, row), stand(ladder, row) == 1)
        self.same(walk(table, level_of(6)), ("barred", ladder))

    def test_what_is_asked_in_order(self):
        for call, more in ((walk, ()), (can_lead, ()), (walk_by, ((0, 1),)), (walk_by, (None,))):
            lots_refused_first(self, call, (0, 0), *more)
            lots_refused_first(self, call, None, *more)
            rows_refused(self, call, 2, (U,), *more)
            rows_refused(self, call, 3, (V,), *more)
        orders_refused(self, walk_by, (U, (0, 0)))
        orders_refused(self, walk_by, ((2, ()), (0, 0)))

    def test_equal_calls_behind_refused_ones(self):
        for _ in range(2):
            self.refused("BadOrder", -1, walk_by, U, (0, 0), (0, 0))
            self.refused("BadRow", 0, walk, U, (2, 0))
            self.same(walk(U, (0, 0)), ("barred", ((0, 1), (1, 1))))


class WhatHolds(Case):

    def test_led_exactly_if_no_ladder_that_is_heeded_bars(self):
        lots = [(n, lot) for n in (1, 2) for lot in every_lot(n)] + [(3, lot) for lot in some_lots(3, 28, 6)]
        for n, lot in lots:
            heeded = [ladder for ladder in every_ladder(n) if is_heeded(lot, ladder)]
            for row in every_row(n):
                barred = any(is_barred_by(lot, ladder, row) for ladder in heeded)
                self.assertIs(can_lead(lot, row), not barred)

    def test_led_exactly_if_a_sum_of_sums(self):
        for lot in every_lot(1) + every_lot(2) + some_lots(3, 40, 9) + some_lots(4, 5, 4):
            led = closed(lot)
            for row in every_row(lot[0]):
                self.assertIs(can_lead(lot, row), row in led)


if __name__ == "__main__":
    unittest.main()
