"""Tables [8]."""

import unittest

from common import (Case, NO_LOTS, NO_MANY, NO_SIGNS, ODD, climbing, every_ladder, every_lot, every_row, level_of)
from roundorlist.lots import has, joined, made_lot
from roundorlist.tables import is_table, made_table


class MadeTable(Case):

    def test_a_table_is_returned(self):
        for table in ((1, ((1,),)), (1, ((-1,), (1,))), (2, ((0, 1), (1, -1), (1, 0), (1, 1)))):
            self.same(made_table(table), table)
            self.assertIs(is_table(table), True)
        self.same(made_table(thing=(1, ())), (1, ()))
        self.assertIs(is_table(thing=(1, ())), True)

    def test_all_lots_of_few_members(self):
        for n, rows in every_lot(1) + every_lot(2):
            if level_of(n) in rows:
                self.refused("BadTable", rows.index(level_of(n)), made_table, (n, rows))
                self.judged(is_table, (n, rows))
            else:
                self.same(made_table((n, rows)), (n, rows))
                self.assertIs(is_table((n, rows)), True)

    def test_edges(self):
        for n in range(1, 7):
            rows = tuple(row for row in every_row(n) if any(row))
            for table in ((n, ()), (n, rows)):
                self.same(made_table(table), table)
                self.assertIs(is_table(table), True)
            self.refused("BadTable", 3 ** n // 2, made_table, (n, every_row(n)))
            self.refused("BadTable", 0, made_table, (n, (level_of(n),)))
            self.judged(is_table, (n, every_row(n)))
            self.judged(is_table, (n, (level_of(n),)))

    def test_what_is_no_lot(self):
        for thing, name, what in NO_LOTS:
            # Where a level row stands ahead of the fault it is told in its place.
            if thing not in ((1, ((0,), (True,))), (1, ((0,), (0,)))):
                self.refused({"BadLot": "BadTable"}.get(name, name), what, made_table, thing)
            self.judged(is_table, thing)

    def test_a_wrong_n(self):
        for n in NO_MANY:
            self.refused("BadMany", n, made_table, (n, ()))
            self.refused("BadMany", n, made_table, (n, None))
            self.judged(is_table, (n, ()))

    def test_a_wrong_number_in_a_row(self):
        for wrong in NO_SIGNS:
            self.refused("BadTable", 1, made_table, (2, ((-1, 0), (0, wrong), (1, 1))))
            self.judged(is_table, (2, ((-1, 0), (0, wrong), (1, 1))))
        self.refused("BadTable", 0, made_table, (1, ((False,),)))
        self.refused("BadTable", 1, made_table, (2, ((-1, 0), (0, False))))

    def test_two_things_wrong(self):
        self.refused("BadTable", 0, made_table, (1, ((0,), (0,))))
        self.refused("BadTable", 0, made_table, (1, ((0,), (-1,))))
        self.refused("BadTable", 0, made_table, (1, ((0,), (7,))))
        self.refused("BadTable", 1, made_table, (1, ((1,), (-1,), (0,))))
        self.refused("BadTable", 1, made_table, (1, ((1,), (0,), (-1,))))
        self.refused("BadTable", 0, made_table, (1, ((7,), (0,))))
        self.refused("BadTable", 2, made_table, (2, ((-1, 0), (-1, 1), (0, 0), (0, 1), (0, 1))))
        self.refused("BadTable", 2, made_table, (2, ((-1, 0), (0, 1), (0, 0), (0, 1), (0, 1))))

    def test_is_table_of_odd_things(self):
        for thing in ODD:
            if thing not in ((1, ()),) or type(thing[0]) is bool:
                self.judged(is_table, thing)

    def test_a_table_is_a_lot(self):
        for ladder in every_ladder(3):
            table = climbing(3, ladder)
            self.same(made_lot(made_table(table)), table)
            self.assertIs(has(table, (0, 0, 0)), False)
            self.same(joined(table, (3, ())), table)

    def test_equal_calls_behind_refused_ones(self):
        for _ in range(2):
            self.refused("BadTable", 1, made_table, (1, ((-1,), (0,))))
            self.same(made_table((1, ((-1,), (1,)))), (1, ((-1,), (1,))))
            self.same(made_lot((1, ((-1,), (0,)))), (1, ((-1,), (0,))))


if __name__ == "__main__":
    unittest.main()
