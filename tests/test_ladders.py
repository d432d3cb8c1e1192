"""Ladders [9]."""

import unittest

from common import (Case, DEEP, NO_MANY, NO_NUMBERS, NO_RUNGS, ODD, climbing, every_ladder, every_lot, every_row,
                    is_barred_by, is_climbed, is_heeded, ladders_refused, level_of, lots_refused_first, rows_refused,
                    some_lots, stand)
from roundorlist.ladders import bars, climbed, heeds, is_ladder, look, made_ladder

T = (2, ((0, 1), (1, -1), (1, 0), (1, 1)))


class MadeLadder(Case):

    def test_ladders_are_returned(self):
        for n in (1, 2, 3, 4):
            for ladder in every_ladder(n):
                self.same(made_ladder(n, ladder), ladder)
                self.assertIs(is_ladder(n, ladder), True)
        self.same(made_ladder(thing=((1, -1),), n=2), ((1, -1),))
        self.assertIs(is_ladder(thing=((1, -1),), n=2), True)

    def test_edges(self):
        for n in range(1, 7):
            for ladder in ((), tuple((member, 1) for member in range(n)), ((n - 1, -1),)):
                self.same(made_ladder(n, ladder), ladder)
                self.assertIs(is_ladder(n, ladder), True)
            self.refused("BadLadder", 0, made_ladder, n, ((n, 1),))
            self.refused("BadLadder", n, made_ladder, n, tuple((member, 1) for member in range(n + 1)))
            self.judged(is_ladder, n, ((n, 1),))
        last = ((5, -1), (3, 1), (0, 1), (1, -1), (2, -1), (4, 1))
        self.same(made_ladder(6, last), last)
        self.refused("BadLadder", 6, made_ladder, 6, last + ((4, 1),))

    def test_n_is_asked_first(self):
        for n in NO_MANY:
            for thing in ((), None, ((0, 1),), ((7, 7),), DEEP):
                self.refused("BadMany", n, made_ladder, n, thing)
                self.judged(is_ladder, n, thing)

    def test_what_is_no_ladder(self):
        ladders_refused(self, made_ladder, (2,))

    def test_is_ladder_of_what_is_none(self):
        for thing in ODD:
            if thing != ():
                for n in (1, 2, 6):
                    self.judged(is_ladder, n, thing)
        for part in NO_RUNGS:
            self.judged(is_ladder, 2, (part,))
            self.judged(is_ladder, 2, ((1, -1), part))
            self.judged(is_ladder, 2, (part, (1, -1)))
        self.judged(is_ladder, 2, ((0, 1), (0, 1)))
        self.judged(is_ladder, 2, ((0, 1), (1, 1), (0, -1)))
        self.judged(is_ladder, 2, ((0, 1),) * 50000)

    def test_equal_calls_behind_refused_ones(self):
        for _ in range(2):
            self.refused("BadLadder", 1, made_ladder, 2, ((0, 1), (0, 1)))
            self.same(made_ladder(2, ((0, 1), (1, 1))), ((0, 1), (1, 1)))


class Look(Case):

    def test_examples(self):
        self.same(look(2, ((1, 1), (0, 1)), (1, 0)), 1)
        self.same(look(2, ((1, 1), (0, 1)), (1, -1)), -1)
        self.same(look(2, ((0, 1),), (0, 1)), 0)
        self.same(look(2, ((0, 1),), (0, -1)), 0)
        self.same(look(row=(1, 0), ladder=((1, 1), (0, 1)), n=2), 1)

    def test_all_rows_are_level_on_the_empty_ladder(self):
        for n in range(1, 7):
            for row in every_row(n)[::7]:
                self.same(look(n, (), row), 0)

    def test_all_ladders_and_rows(self):
        for n in (1, 2, 3):
            for ladder in every_ladder(n):
                for row in every_row(n):
                    self.same(look(n, ladder, row), stand(ladder, row))

    def test_six_members(self):
        ladder = ((5, -1), (3, 1), (0, 1), (1, -1), (2, -1), (4, 1))
        self.same(look(6, ladder, (1, 1, 1, 1, 1, 1)), -1)
        self.same(look(6, ladder, (-1, 0, 0, 1, 0, 0)), 1)
        self.same(look(6, ladder, (0, 0, 0, 0, -1, 0)), -1)
        self.same(look(6, ladder, (0, 0, -1, 0, -1, 0)), 1)
        self.same(look(6, ladder, level_of(6)), 0)
        self.same(look(6, ladder[:5], (0, 0, 0, 0, -1, 0)), 0)

    def test_what_is_asked_in_order(self):
        for n in NO_MANY:
            self.refused("BadMany", n, look, n, None, None)
            self.refused("BadMany", n, look, n, (), (0,))
        ladders_refused(self, look, (2,), (0, 1))
        ladders_refused(self, look, (2,), None)
        rows_refused(self, look, 2, (2, ((0, 1),)))
        rows_refused(self, look, 6, (6, ()))


class OfLots(Case):

    def check(self, lot, ladder):
        self.assertIs(heeds(lot, ladder), is_heeded(lot, ladder))
        self.assertIs(climbed(lot, ladder), is_climbed(lot, ladder))
        for row in every_row(lot[0]):
            self.assertIs(bars(lot, ladder, row), is_barred_by(lot, ladder, row))

    def test_examples(self):
        self.assertIs(climbed(T, ((0, 1), (1, 1))), True)
        self.assertIs(heeds(T, ((0, 1), (1, 1))), True)
        barred = [row for row in every_row(2) if bars(T, ((0, 1), (1, 1)), row)]
        self.assertEqual(barred, [(-1, -1), (-1, 0), (-1, 1), (0, -1), (0, 0)])
        self.assertIs(heeds(T, ((0, 1),)), True)
        self.assertIs(climbed(T, ((0, 1),)), False)
        self.assertIs(bars(T, ((0, 1),), (0, -1)), False)
        self.assertIs(bars(T, ((0, 1),), (-1, -1)), True)
        self.assertIs(heeds(T, ((1, 1), (0, 1))), False)
        self.assertIs(climbed(T, ((1, 1), (0, 1))), False)
        self.assertIs(bars(T, ((1, 1), (0, 1)), (-1, -1)), False)

    def test_names_of_the_arguments(self):
        self.assertIs(heeds(ladder=((0, 1),), lot=T), True)
        self.assertIs(climbed(ladder=((0, 1),), lot=T), False)
        self.assertIs(bars(row=(-1, 0), ladder=((0, 1),), lot=T), True)

    def test_the_empty_ladder(self):
        for n in range(1, 7):
            for rows in ((), (level_of(n),), (level_of(n), (1,) * n), ((1,) * n,)):
                self.assertIs(heeds((n, rows), ()), True)
                self.assertIs(climbed((n, rows), ()), rows == ())
                for row in ((1,) * n, level_of(n), (-1,) * n):
                    self.assertIs(bars((n, rows), (), row), rows == ())

    def test_the_empty_lot(self):
        for ladder in every_ladder(2):
            self.check((2, ()), ladder)
        self.assertIs(bars((1, ()), ((0, 1),), (1,)), False)
        self.assertIs(bars((1, ()), ((0, 1),), (0,)), True)
        self.assertIs(bars((1, ()), ((0, 1),), (-1,)), True)

    def test_the_level_row_in_the_lot(self):
        ladder = ((0, 1), (1, 1))
        lot = (2, ((0, 0),) + T[1])
        self.assertIs(heeds(lot, ladder), True)
        self.assertIs(climbed(lot, ladder), False)
        self.assertIs(bars(lot, ladder, (0, 0)), False)
        self.assertIs(bars(lot, ladder, (0, -1)), True)
        self.assertIs(bars(lot, ladder, (0, 1)), False)

    def test_all_lots_of_one_member(self):
        for lot in every_lot(1):
            for ladder in every_ladder(1):
                self.check(lot, ladder)

    def test_lots_of_two_and_three_members(self):
        for lot in every_lot(2)[::3]:
            for ladder in every_ladder(2):
                self.check(lot, ladder)
        for lot in some_lots(3, 12, 5):
            for ladder in every_ladder(3):
                self.check(lot, ladder)

    def test_all_rows_that_climb_a_ladder(self):
        for ladder in every_ladder(4)[::9] + [()]:
            table = climbing(4, ladder)
            self.assertIs(climbed(table, ladder), True)
            self.assertIs(heeds(table, ladder), True)
            for row in every_row(4):
                self.assertIs(bars(table, ladder, row), stand(ladder, row) != 1)
        ladder = tuple((member, -1) for member in (4, 2, 0, 5, 3, 1))
        table = climbing(6, ladder)
        self.assertEqual(len(table[1]), 364)
        self.assertIs(climbed(table, ladder), True)
        self.assertIs(heeds((6, every_row(6)), ladder), False)
        self.assertIs(bars(table, ladder, level_of(6)), True)

    def test_the_lot_is_asked_first(self):
        for call in (heeds, climbed):
            lots_refused_first(self, call, ())
            lots_refused_first(self, call, None)
        for more in (((), (0, 0)), (None, None), ((), None)):
            lots_refused_first(self, bars, *more)

    def test_then_the_ladder_and_then_the_row(self):
        for call in (heeds, climbed):
            ladders_refused(self, call, (T,))
        ladders_refused(self, bars, (T,), (0, 0))
        ladders_refused(self, bars, (T,), None)
        rows_refused(self, bars, 2, (T, ((0, 1),)))
        rows_refused(self, bars, 2, (T, ((1, 1), (0, 1))))
        rows_refused(self, bars, 5, ((5, ()), ()))

    def test_equal_calls_behind_refused_ones(self):
        for _ in range(2):
            self.refused("BadLadder", 0, heeds, T, ((2, 1),))
            self.refused("BadRow", -1, bars, T, ((0, 1),), NO_NUMBERS)
            self.check(T, ((0, 1), (1, 1)))


if __name__ == "__main__":
    unittest.main()
