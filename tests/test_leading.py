"""Rows that lead [12], few of them [13], motions and ways [14], ways by rows in order [15], led ways [16]."""

import time
import unittest
from itertools import combinations, permutations, product

from common import (Case, climbing, every_ladder, every_lot, every_row, level_of, lots_refused_first,
                    needing_all, order_of, rows_lead, rows_refused, rows_wrong, small_lots, some_lots, stand)
from roundorlist.leading import few, fewest, lead_way, leads, row_of, way_of
from roundorlist.walking import can_lead

U = (2, ((0, 1), (1, 0), (1, 1)))
V = (3, ((0, 1, 1), (1, -1, 1), (1, 0, 1), (1, 1, -1), (1, 1, 0), (1, 1, 1)))
BIG = 10 ** 999


def bound(row):
    """How many rows [13] and steps [16] there may be at most."""
    return len(row) if any(row) else len(row) + 1


def heights_told(steps, sign):
    """The heights of a member, word for word as [15] tells them."""
    k = len(steps)
    moving = [at for at, step in enumerate(steps) if step != 0]
    heights = [0]
    for at, step in enumerate(steps):
        move = 0
        if sign != 0 and step == sign:
            move = sign * k
        elif sign != 0 and step == -sign:
            move = -sign
        elif sign == 0 and moving and at < moving[-1]:
            a = steps[moving[-1]]
            move = {-a: -a * k, a: a, 0: 0}[step]
        elif sign == 0 and moving and at == moving[-1]:
            move = -heights[-1]
        heights.append(heights[-1] + move)
    return heights


def way_told(rows, row):
    columns = [heights_told([step[place] for step in rows], sign) for place, sign in enumerate(row)]
    return tuple(tuple(column[at] for column in columns) for at in range(len(rows) + 1))


class Leads(Case):

    def test_examples(self):
        self.assertIs(leads(3, ((1, -1, 1), (1, 1, -1)), (1, -1, -1)), True)
        self.assertIs(leads(2, ((-1, 1), (1, -1)), (0, 0)), True)
        self.assertIs(leads(row=(0,), rows=((1,),), n=1), False)

    def test_one_member(self):
        for many in (1, 2, 3, 4):
            for rows in product(every_row(1), repeat=many):
                come = {row[0] for row in rows}
                self.assertIs(leads(1, rows, (1,)), 1 in come)
                self.assertIs(leads(1, rows, (-1,)), -1 in come)
                self.assertIs(leads(1, rows, (0,)), come == {0} or {1, -1} <= come)

    def test_two_members(self):
        for many in (1, 2, 3):
            for rows in product(every_row(2), repeat=many):
                for row in every_row(2):
                    self.assertIs(leads(2, rows, row), rows_lead(rows, row))

    def test_exactly_if_there_are_such_motions(self):
        for many in (1, 2, 3):
            for steps in product((-1, 0, 1), repeat=many):
                ends = {sum(step * by for step, by in zip(steps, moves)) for moves in product((1, 2, 3), repeat=many)}
                for sign in (-1, 0, 1):
                    there = any((end > 0) - (end < 0) == sign for end in ends)
                    self.assertIs(leads(1, tuple((step,) for step in steps), (sign,)), there)

    def test_order_and_times_do_not_matter(self):
        rows = ((1, 0, -1), (0, 0, 0), (-1, 1, -1), (0, 1, 1))
        for row in every_row(3):
            wanted = rows_lead(rows, row)
            for order in permutations(rows):
                self.assertIs(leads(3, order, row), wanted)
                self.assertIs(leads(3, order + rows[:2] + order + order[:3] + order[:1], row), wanted)

    def test_edges(self):
        self.assertIs(leads(6, (level_of(6),), level_of(6)), True)
        self.assertIs(leads(6, (level_of(6),) * 14, level_of(6)), True)
        self.assertIs(leads(6, (level_of(6),) * 14, (0, 0, 0, 0, 0, 1)), False)
        self.assertIs(leads(6, ((1,) * 6,) * 13 + ((-1,) * 6,), (0, 1, -1, 0, 1, -1)), True)
        self.assertIs(leads(6, ((1,) * 6,) * 13 + ((-1,) * 5 + (0,),), (0, 1, -1, 0, 1, -1)), False)
        self.assertIs(leads(6, ((1,) * 6,) * 13 + ((-1,) * 5 + (0,),), (0, 1, -1, 0, 1, 1)), True)
        self.assertIs(leads(6, ((1,) * 6,) * 13 + ((-1,) * 5 + (0,),), (0, 1, -1, 0, 1, 0)), False)

    def test_what_is_asked_in_order(self):
        rows_wrong(self, leads, 2, (0, 0))
        rows_wrong(self, leads, 2, None)
        rows_refused(self, leads, 2, (2, ((0, 1),)))
        rows_refused(self, leads, 6, (6, (level_of(6),)))


class Few(Case):

    def check(self, lot, row):
        got = few(lot, row)
        self.same(few(lot, row), got)
        if not can_lead(lot, row):
            self.same(got, None)
            return
        self.same(got, tuple(sorted(set(got))))
        self.assertTrue(1 <= len(got) <= bound(row))
        self.assertLessEqual(set(got), set(lot[1]))
        self.assertIs(leads(lot[0], got, row), True)
        self.assertTrue(rows_lead(got, row))

    def test_examples(self):
        self.check(V, (1, -1, -1))
        self.same(few((1, ((0,),)), (0,)), ((0,),))
        self.same(few(row=(0,), lot=(1, ((-1,), (1,)))), ((-1,), (1,)))
        self.same(few((1, ((-1,), (1,))), (1,)), ((1,),))

    def test_lots(self):
        lots = every_lot(1) + every_lot(2) + small_lots(3, 2)[::3] + some_lots(3, 60, 27) + some_lots(4, 20, 12)
        for lot in lots:
            for row in every_row(lot[0]):
                self.check(lot, row)

    def test_as_many_as_may_be_needed(self):
        for n in range(1, 7):
            lot = needing_all(n)
            self.same(few(lot, level_of(n)), lot[1])
            self.same(few((n, lot[1][1:]), (1,) * n), lot[1][1:])

    def test_six_members(self):
        for row in every_row(6)[::13]:
            self.check((6, every_row(6)), row)
            self.check((6, tuple(each for each in every_row(6) if any(each))), row)
            self.check((6, needing_all(6)[1]), row)
            self.check((6, ()), row)
        for lot in some_lots(6, 20, 40):
            for row in every_row(6)[::17]:
                self.check(lot, row)

    def test_what_is_asked_in_order(self):
        lots_refused_first(self, few, (0, 0))
        lots_refused_first(self, few, None)
        rows_refused(self, few, 2, (U,))
        rows_refused(self, few, 6, ((6, ()),))


class Fewest(Case):

    def check(self, lot, row):
        least = [many for many in range(1, bound(row) + 1)
                 if any(rows_lead(rows, row) for rows in combinations(lot[1], many))]
        self.same(fewest(lot, row), least[0] if least else None)

    def test_examples(self):
        self.same(fewest(V, (1, -1, -1)), 2)
        self.same(fewest((1, ((-1,), (1,))), (0,)), 2)
        self.same(fewest((1, ((-1,), (0,), (1,))), (0,)), 1)
        self.same(fewest(row=(0, 0), lot=U), None)

    def test_small_lots(self):
        for lot in every_lot(1) + every_lot(2) + small_lots(3, 2)[::5] + some_lots(3, 30, 8) + some_lots(4, 4, 6):
            for row in every_row(lot[0]):
                self.check(lot, row)

    def test_as_many_as_may_be_needed(self):
        for n in (1, 2, 3, 4):
            lot = needing_all(n)
            self.same(fewest(lot, level_of(n)), n + 1)
            self.same(fewest(lot, (1,) * n), n)
            self.same(fewest((n, lot[1][1:]), level_of(n)), None)

    def test_all_rows_of_four_members(self):
        for row in every_row(4):
            self.same(fewest((4, every_row(4)), row), 1)
        table = (4, tuple(row for row in every_row(4) if any(row)))
        self.same(fewest(table, level_of(4)), 2)
        for ladder in every_ladder(4)[::40]:
            table = climbing(4, ladder)
            for row in every_row(4):
                self.same(fewest(table, row), 1 if stand(ladder, row) == 1 else None)

    def test_many_rows_of_which_many_are_needed(self):
        rows = tuple(row for row in every_row(4) if row.count(1) <= 1 and any(row))
        self.assertEqual(len(rows), 47)
        self.same(fewest((4, rows), (1, 1, 1, 1)), 4)
        self.same(fewest((4, rows), (1, 1, 1, 0)), 3)
        self.same(fewest((4, rows), (0, 0, 0, 0)), 2)
        self.same(fewest((4, tuple(row for row in rows if row.count(0) < 3)), (0, 0, 0, 0)), 2)
        self.same(fewest((4, tuple(row for row in rows if row.count(0) == 0 and row != (-1,) * 4)), (0,) * 4), 4)

    def test_beside_few(self):
        for lot in some_lots(4, 12, 30):
            for row in every_row(4):
                got = fewest(lot, row)
                if few(lot, row) is None:
                    self.same(got, None)
                else:
                    self.assertTrue(1 <= got <= len(few(lot, row)))
                    self.assertEqual(got == 1, row in lot[1])

    def test_more_than_four_members(self):
        for n in (5, 6):
            for lot in ((n, ()), (n, every_row(n)), needing_all(n)):
                for row in (level_of(n), (1,) * n):
                    self.refused("TooMany", n, fewest, lot, row)

    def test_what_is_asked_in_order(self):
        lots_refused_first(self, fewest, (0, 0))
        lots_refused_first(self, fewest, None)
        rows_refused(self, fewest, 2, (U,))
        rows_refused(self, fewest, 4, ((4, ()),))
        rows_refused(self, fewest, 5, ((5, ()),))
        self.refused("BadLot", 0, fewest, (5, (None,)), None)
        self.same(fewest((4, ()), level_of(4)), None)


class RowOf(Case):

    def test_heights(self):
        self.same(row_of((3,), (2,)), (1,))
        self.same(row_of((2,), (2,)), (0,))
        self.same(row_of((2,), (3,)), (-1,))
        self.same(row_of(old=(0, 0, 0), new=(1, -1, 0)), (1, -1, 0))
        self.same(row_of((1, 2, 3, 4, 5, 6), (6, 5, 4, 3, 2, 1)), (-1, -1, -1, 1, 1, 1))

    def test_heights_of_any_size(self):
        self.same(row_of((BIG, -BIG, BIG), (BIG - 1, 1 - BIG, BIG)), (1, -1, 0))
        self.same(row_of((BIG,) * 6, (-BIG,) * 6), (1,) * 6)

    def test_all_small_motions(self):
        for new in product((-2, 0, 1), repeat=2):
            for old in product((-2, 0, 1), repeat=2):
                self.same(row_of(new, old), order_of(new, old))


class WayOf(Case):

    def check(self, n, rows, row):
        if not rows_lead(rows, row):
            self.refused("NotLed", 0, way_of, n, rows, row)
            return
        way = way_of(n, rows, row)
        self.same(way, way_told(rows, row))
        self.assertEqual(way[0], level_of(n))
        self.assertEqual(tuple(row_of(new, old) for new, old in zip(way[1:], way)), rows)
        self.assertEqual(row_of(way[-1], way[0]), row)

    def test_examples(self):
        self.same(way_of(3, ((1, -1, 1), (1, 1, -1)), (1, -1, -1)), ((0, 0, 0), (2, -2, 1), (4, -1, -1)))
        self.same(way_of(2, ((-1, 1), (1, -1)), (0, 0)), ((0, 0), (-2, 2), (0, 0)))
        self.same(way_of(row=(0,), rows=((0,),), n=1), ((0,), (0,)))

    def test_heights_told_one_by_one(self):
        self.same(way_of(1, ((1,),), (1,)), ((0,), (1,)))
        self.same(way_of(1, ((1,), (-1,), (0,), (1,)), (1,)), ((0,), (4,), (3,), (3,), (7,)))
        self.same(way_of(1, ((1,), (-1,), (0,), (1,)), (-1,)), ((0,), (1,), (-3,), (-3,), (-2,)))
        self.same(way_of(1, ((1,), (-1,), (0,), (1,)), (0,)), ((0,), (1,), (-3,), (-3,), (0,)))
        self.same(way_of(1, ((1,), (0,), (-1,), (0,), (0,)), (0,)), ((0,), (5,), (5,), (0,), (0,), (0,)))
        self.same(way_of(1, ((1,), (1,), (-1,), (-1,)), (0,)), ((0,), (4,), (8,), (7,), (0,)))
        self.same(way_of(1, ((0,), (-1,), (1,), (-1,), (1,)), (0,)), ((0,), (0,), (-5,), (-4,), (-9,), (0,)))

    def test_one_member(self):
        for many in range(1, 7):
            for rows in product(every_row(1), repeat=many):
                for row in every_row(1):
                    self.check(1, rows, row)

    def test_two_members(self):
        for many in (1, 2, 3):
            for rows in product(every_row(2), repeat=many):
                for row in every_row(2):
                    self.check(2, rows, row)

    def test_fourteen_rows_of_six_members(self):
        for lot in some_lots(6, 30, 13):
            rows = (lot[1] + lot[1][::2] + (level_of(6),) * 14)[:14]
            for row in every_row(6)[::11]:
                self.check(6, rows, row)
                self.check(6, rows[::-1], row)
        self.check(6, ((1,) * 6,) * 7 + ((-1,) * 6,) * 7, (0, 1, -1, 0, 1, -1))

    def test_level_rows(self):
        self.same(way_of(2, ((0, 0),) * 3, (0, 0)), ((0, 0),) * 4)
        self.same(way_of(2, ((0, 0), (0, 1), (0, 0)), (0, 1)), ((0, 0), (0, 0), (0, 3), (0, 3)))
        self.refused("NotLed", 0, way_of, 2, ((0, 0),), (0, 1))

    def test_what_is_asked_in_order(self):
        rows_wrong(self, way_of, 2, (0, 0))
        rows_wrong(self, way_of, 2, None)
        rows_refused(self, way_of, 2, (2, ((0, 1),)))
        self.refused("NotLed", 0, way_of, 2, ((0, 1),), (0, 0))
        self.refused("NotLed", 0, way_of, 6, (level_of(6),) * 14, (1,) * 6)

    def test_equal_calls_behind_refused_ones(self):
        for _ in range(2):
            self.refused("NotLed", 0, way_of, 1, ((1,),), (0,))
            self.same(way_of(1, ((1,), (-1,)), (0,)), ((0,), (2,), (0,)))


class LeadWay(Case):

    def check(self, lot, row):
        if not can_lead(lot, row):
            self.refused("Barred", 0, lead_way, lot, row)
            return
        way = lead_way(lot, row)
        self.same(lead_way(lot, row), way)
        self.assertIs(type(way), tuple)
        self.assertTrue(all(type(motion) is tuple and type(height) is int for motion in way for height in motion))
        self.assertEqual(way[0], level_of(lot[0]))
        self.assertTrue(1 <= len(way) - 1 <= bound(row))
        for new, old in zip(way[1:], way):
            self.assertIn(row_of(new, old), lot[1])
        self.assertEqual(row_of(way[-1], way[0]), row)

    def test_examples(self):
        self.check(V, (1, -1, -1))
        self.check(U, (1, 1))
        self.refused("Barred", 0, lead_way, U, (0, 0))
        self.refused("Barred", 0, lead_way, row=(1, -1), lot=U)

    def test_lots(self):
        lots = every_lot(1) + every_lot(2) + small_lots(3, 2)[::3] + some_lots(3, 60, 27) + some_lots(4, 20, 12)
        for lot in lots:
            for row in every_row(lot[0]):
                self.check(lot, row)

    def test_as_many_steps_as_may_be_needed(self):
        for n in range(1, 7):
            self.assertEqual(len(lead_way(needing_all(n), level_of(n))), n + 2)
            self.assertEqual(len(lead_way((n, needing_all(n)[1][1:]), (1,) * n)), n + 1)

    def test_six_members(self):
        for row in every_row(6)[::13]:
            self.check((6, every_row(6)), row)
            self.check((6, tuple(each for each in every_row(6) if any(each))), row)
            self.check((6, ()), row)
        for lot in some_lots(6, 20, 40):
            for row in every_row(6)[::17]:
                self.check(lot, row)

    def test_what_is_asked_in_order(self):
        lots_refused_first(self, lead_way, (0, 0))
        lots_refused_first(self, lead_way, None)
        rows_refused(self, lead_way, 2, (U,))
        rows_refused(self, lead_way, 6, ((6, ()),))
        self.refused("Barred", 0, lead_way, (6, ()), level_of(6))


class Quick(Case):

    def test_large_lots_are_told_quickly(self):
        begun = time.perf_counter()
        whole, ladder = (6, every_row(6)), tuple((member, 1) for member in range(6))
        table = climbing(6, ladder)
        for row in every_row(6):
            self.assertIs(can_lead(whole, row), True)
            self.assertIs(few(table, row) is None, stand(ladder, row) != 1)
        for row in every_row(6)[::7]:
            self.assertEqual(row_of(lead_way(whole, row)[-1], level_of(6)), row)
        for lot in some_lots(4, 10, 81):
            for row in every_row(4):
                self.assertIs(fewest(lot, row) is None, few(lot, row) is None)
        self.assertLess(time.perf_counter() - begun, 30)


if __name__ == "__main__":
    unittest.main()
