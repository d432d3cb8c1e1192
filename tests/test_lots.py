"""Lots [5], lots of two lots [6], other members and signs [7]."""

import unittest
from itertools import permutations, product

from common import (Case, DEEP, LONG, NO_LOTS, NO_MANY, NO_SIGNS, NO_TUPLES, ODD, every_lot, every_row, level_of,
                    lots_refused_first, orders_refused, rows_refused, some_lots)
from roundorlist.lots import (both, has, is_lot, joined, made_lot, mirrored, renamed, turned_lot, without)

EXAMPLE = (2, ((0, 1), (1, -1), (1, 1)))

class MadeLot(Case):

    def test_a_lot_is_returned(self):
        self.same(made_lot(EXAMPLE), EXAMPLE)
        self.same(made_lot(thing=(1, ())), (1, ()))
        for lot in every_lot(1) + every_lot(2):
            self.same(made_lot(lot), lot)
            self.assertIs(is_lot(lot), True)

    def test_edges(self):
        for n in range(1, 7):
            for lot in ((n, ()), (n, (level_of(n),)), (n, every_row(n))):
                self.same(made_lot(lot), lot)
                self.assertIs(is_lot(thing=lot), True)

    def test_what_is_no_lot(self):
        for thing, name, what in NO_LOTS:
            self.refused(name, what, made_lot, thing)
            self.judged(is_lot, thing)

    def test_a_wrong_n(self):
        for n in NO_MANY:
            self.refused("BadMany", n, made_lot, (n, ()))
            self.refused("BadMany", n, made_lot, (n, None))
            self.refused("BadMany", n, made_lot, (n, (None,)))
            self.judged(is_lot, (n, ()))

    def test_a_wrong_number_in_a_row(self):
        for wrong in NO_SIGNS:
            self.refused("BadLot", 1, made_lot, (2, ((-1, 0), (0, wrong), (1, 1))))
            self.refused("BadLot", 0, made_lot, (2, ((wrong, 0), (0, 0), (1, 1))))
            self.judged(is_lot, (2, ((-1, 0), (0, wrong), (1, 1))))

    def test_each_index(self):
        rows = every_row(2)
        for index in range(9):
            self.refused("BadLot", index, made_lot, (2, rows[:index] + (None,) + rows[index + 1:]))
            if index:
                self.refused("BadLot", index, made_lot, (2, rows[:index] + (rows[index - 1],) + rows[index:]))
        self.refused("BadLot", 728, made_lot, (6, every_row(6)[:-1] + ((1, 1, 1, 1, 1, 2),)))
        self.refused("BadLot", 729, made_lot, (6, every_row(6) + (level_of(6),)))

    def test_is_lot_of_odd_things(self):
        for thing in ODD:
            if thing not in ((1, ()),) or type(thing[0]) is bool:
                self.judged(is_lot, thing)

    def test_equal_calls_behind_refused_ones(self):
        for _ in range(2):
            self.refused("BadLot", 1, made_lot, (1, ((0,), (0,))))
            self.same(made_lot((1, ((0,), (1,)))), (1, ((0,), (1,))))


class Has(Case):

    def test_all_rows(self):
        for lot in every_lot(2)[::7] + every_lot(1):
            for row in every_row(lot[0]):
                self.assertIs(has(lot, row), any(each == row for each in lot[1]))
        self.assertIs(has(row=(0, 1), lot=EXAMPLE), True)
        self.assertIs(has(EXAMPLE, (0, 0)), False)

    def test_edges(self):
        self.assertIs(has((6, ()), level_of(6)), False)
        self.assertIs(has((6, (level_of(6),)), level_of(6)), True)
        for row in every_row(6)[::50]:
            self.assertIs(has((6, every_row(6)), row), True)

    def test_the_lot_is_asked_first(self):
        lots_refused_first(self, has, (0, 1))
        lots_refused_first(self, has, None)

    def test_then_the_row(self):
        rows_refused(self, has, 2, (EXAMPLE,))
        rows_refused(self, has, 6, ((6, ()),))


class TwoLots(Case):

    def check(self, one, two):
        rows = every_row(one[0])
        wanted = tuple(row for row in rows if row in one[1] or row in two[1])
        self.same(joined(one, two), (one[0], wanted))
        wanted = tuple(row for row in rows if row in one[1] and row in two[1])
        self.same(both(one, two), (one[0], wanted))
        wanted = tuple(row for row in rows if row in one[1] and row not in two[1])
        self.same(without(one, two), (one[0], wanted))

    def test_all_of_one_member(self):
        for one in every_lot(1):
            for two in every_lot(1):
                self.check(one, two)

    def test_some_of_more(self):
        for one in every_lot(2)[::37]:
            for two in every_lot(2)[::41]:
                self.check(one, two)
        for one, two in zip(some_lots(3, 60, 20), some_lots(3, 61, 20)[1:]):
            self.check(one, two)

    def test_edges(self):
        for n in range(1, 7):
            whole, nothing, flat = (n, every_row(n)), (n, ()), (n, (level_of(n),))
            for one in (whole, nothing, flat):
                for two in (whole, nothing, flat):
                    self.check(one, two)

    def test_names_of_the_arguments(self):
        one, two = (1, ((-1,), (0,))), (1, ((0,), (1,)))
        self.same(joined(two=two, one=one), (1, ((-1,), (0,), (1,))))
        self.same(both(two=two, one=one), (1, ((0,),)))
        self.same(without(two=two, one=one), (1, ((-1,),)))

    def test_one_is_asked_first(self):
        for call in (joined, both, without):
            lots_refused_first(self, call, (1, ()))
            lots_refused_first(self, call, None)
            lots_refused_first(self, call, (9, ()))

    def test_then_two(self):
        for call in (joined, both, without):
            for thing, name, what in NO_LOTS:
                self.refused(name, what, call, EXAMPLE, thing)
                self.refused(name, what, call, (3, ()), thing)

    def test_unlike(self):
        for call in (joined, both, without):
            for one in range(1, 7):
                for two in range(1, 7):
                    if one != two:
                        self.refused("Unlike", 0, call, (one, ()), (two, ()))
                        self.refused("Unlike", 0, call, (one, every_row(one)), (two, every_row(two)))

    def test_equal_calls_behind_refused_ones(self):
        for _ in range(2):
            for call in (joined, both, without):
                self.refused("Unlike", 0, call, EXAMPLE, (1, ()))
            self.check(EXAMPLE, (2, ((0, 0), (0, 1))))


class Renamed(Case):

    def test_examples(self):
        self.same(renamed(EXAMPLE, (1, 0)), (2, ((-1, 1), (1, 0), (1, 1))))
        self.same(renamed((3, ((1, 0, -1),)), (1, 2, 0)), (3, ((0, -1, 1),)))
        self.same(renamed(order=(2, 0, 1), lot=(3, ((1, 0, -1),))), (3, ((-1, 1, 0),)))

    def test_all_orders(self):
        for n, lots in ((1, every_lot(1)), (2, every_lot(2)[::11]), (3, some_lots(3, 40, 27)), (4, some_lots(4, 5, 9))):
            for lot in lots:
                for order in permutations(range(n)):
                    wanted = sorted(tuple(row[order[j]] for j in range(n)) for row in lot[1])
                    self.same(renamed(lot, order), (n, tuple(wanted)))

    def test_six_members(self):
        self.same(renamed((6, ((-1, 0, 1, 0, 0, 1),)), (5, 4, 3, 2, 1, 0)), (6, ((1, 0, 0, 1, 0, -1),)))
        self.same(renamed((6, every_row(6)), (3, 1, 5, 0, 2, 4)), (6, every_row(6)))
        self.same(renamed((6, ()), (0, 1, 2, 3, 4, 5)), (6, ()))

    def test_the_lot_is_asked_first(self):
        lots_refused_first(self, renamed, (0, 1))
        lots_refused_first(self, renamed, None)

    def test_then_the_order(self):
        orders_refused(self, renamed, (EXAMPLE,))
        self.refused("BadOrder", -1, renamed, (1, ()), (1,))
        self.refused("BadOrder", -1, renamed, (1, ()), (False,))
        self.refused("BadOrder", -1, renamed, (3, ()), (0, 1, 1))
        self.refused("BadOrder", -1, renamed, (3, ()), (0, (1, 2), "2"))
        self.refused("BadOrder", -1, renamed, (6, ()), (1, 2, 3, 4, 5, 6))

    def test_equal_calls_behind_refused_ones(self):
        for _ in range(2):
            self.refused("BadOrder", -1, renamed, EXAMPLE, (0, 0))
            self.same(renamed(EXAMPLE, (0, 1)), EXAMPLE)


class Mirrored(Case):

    def test_examples(self):
        self.same(mirrored(EXAMPLE, (1, -1)), (2, ((0, -1), (1, -1), (1, 1))))
        self.same(mirrored(signs=(-1, 1), lot=EXAMPLE), (2, ((-1, -1), (-1, 1), (0, 1))))

    def test_all_signs(self):
        for n, lots in ((1, every_lot(1)), (2, every_lot(2)[::11]), (3, some_lots(3, 40, 27))):
            for lot in lots:
                for signs in product((1, -1), repeat=n):
                    wanted = sorted(tuple(row[j] * signs[j] for j in range(n)) for row in lot[1])
                    self.same(mirrored(lot, signs), (n, tuple(wanted)))

    def test_six_members(self):
        self.same(mirrored((6, ((-1, 0, 1, 0, 1, 1),)), (1, -1, -1, 1, -1, 1)), (6, ((-1, 0, -1, 0, -1, 1),)))
        self.same(mirrored((6, every_row(6)), (-1,) * 6), (6, every_row(6)))
        self.same(mirrored((6, ()), (-1,) * 6), (6, ()))

    def test_the_lot_is_asked_first(self):
        lots_refused_first(self, mirrored, (1, 1))
        lots_refused_first(self, mirrored, None)

    def test_then_the_signs(self):
        for signs in NO_TUPLES + ((), (1,), (1, 1, 1), (7,), (0, 0, 0), DEEP, LONG):
            self.refused("BadSigns", -1, mirrored, EXAMPLE, signs)
        for wrong in NO_SIGNS + (0,):
            self.refused("BadSigns", 0, mirrored, EXAMPLE, (wrong, 1))
            self.refused("BadSigns", 1, mirrored, EXAMPLE, (-1, wrong))
            self.refused("BadSigns", 0, mirrored, EXAMPLE, (wrong, wrong))
        self.refused("BadSigns", 1, mirrored, EXAMPLE, (1, True))
        self.refused("BadSigns", 5, mirrored, (6, ()), (1, 1, -1, -1, 1, 0))

    def test_equal_calls_behind_refused_ones(self):
        for _ in range(2):
            self.refused("BadSigns", 0, mirrored, EXAMPLE, (0, 0))
            self.same(mirrored(EXAMPLE, (1, 1)), EXAMPLE)


class TurnedLot(Case):

    def test_example(self):
        self.same(turned_lot(EXAMPLE), (2, ((-1, -1), (-1, 1), (0, -1))))
        self.same(turned_lot(lot=(1, ())), (1, ()))

    def test_lots(self):
        for lot in every_lot(1) + every_lot(2)[::5] + some_lots(4, 20, 40) + [(6, every_row(6)), (6, (level_of(6),))]:
            wanted = sorted(tuple(0 - number for number in row) for row in lot[1])
            self.same(turned_lot(lot), (lot[0], tuple(wanted)))
            self.same(turned_lot(turned_lot(lot)), lot)
            self.same(turned_lot(lot), mirrored(lot, (-1,) * lot[0]))

    def test_the_lot_is_asked(self):
        lots_refused_first(self, turned_lot)
        self.same(turned_lot((1, ((1,),))), (1, ((-1,),)))


if __name__ == "__main__":
    unittest.main()
