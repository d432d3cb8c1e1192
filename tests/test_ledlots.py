"""Led lots [26], what is not there [27], councils by turns [28]."""

import time
import unittest
from itertools import product

from common import (Case, all_but_level, climbing, closed, every_lot, every_row, full_ladders, is_way_by, level_of,
                    lots_refused_first, needing_all, order_of, rows_lead, rows_refused, small_lots, some_lots, summed,
                    two_lots_refused_first)
from roundorlist.ledlots import alike, break_of, by_turns, led, parting, turns_way
from roundorlist.lots import joined
from roundorlist.walking import can_lead

T = (2, ((0, 1), (1, -1), (1, 0), (1, 1)))
U = (2, ((0, 1), (1, 0), (1, 1)))
MANY_LOTS = every_lot(1) + every_lot(2) + some_lots(3, 60, 9) + small_lots(3, 1) + some_lots(4, 8, 5)
MORE_LOTS = [(n, rows) for n in (5, 6) for rows in ((), every_row(n), needing_all(n)[1], (level_of(n),))]


def climbing_or_level(ladder, n):
    return (n, tuple(sorted(climbing(n, ladder)[1] + (level_of(n),))))


class Led(Case):

    def test_examples(self):
        self.same(led((2, ((0, 1), (1, -1)))), T)
        self.same(led(lot=T), T)
        self.same(led(U), U)

    def test_beside_closing_under_sums(self):
        for lot in MANY_LOTS:
            self.same(led(lot), (lot[0], tuple(sorted(closed(lot)))))

    def test_beside_can_lead(self):
        for lot in some_lots(3, 20, 20) + some_lots(4, 12, 40):
            got = led(lot)
            self.same(got, (lot[0], tuple(row for row in every_row(lot[0]) if can_lead(lot, row))))
            self.assertLessEqual(set(lot[1]), set(got[1]))
            self.same(led(got), got)

    def test_edges(self):
        for n in range(1, 5):
            for rows in ((), every_row(n), (level_of(n),), ((1,) * n,), (level_of(n), (1,) * n)):
                self.same(led((n, rows)), (n, rows))
            self.same(led(all_but_level(n)), (n, every_row(n)))
            self.same(led(needing_all(n)), (n, every_row(n)))
        for ladder in full_ladders(4)[::19]:
            self.same(led(climbing(4, ladder)), climbing(4, ladder))
            self.same(led(climbing_or_level(ladder, 4)), climbing_or_level(ladder, 4))

    def test_at_five_members_and_more(self):
        for lot in MORE_LOTS:
            self.refused("TooMany", lot[0], led, lot)

    def test_the_lot_is_asked_first(self):
        lots_refused_first(self, led)
        self.refused("BadLot", 0, led, (5, (None,)))
        self.refused("BadMany", 7, led, (7, ()))


class Alike(Case):

    def check(self, one, two):
        by_one, by_two = closed(one), closed(two)
        apart = sorted(by_one ^ by_two)
        self.assertIs(alike(one, two), apart == [])
        self.same(parting(one, two), (int(apart[0] in by_two), apart[0]) if apart else None)

    def test_examples(self):
        self.same(parting(U, T), (1, (1, -1)))
        self.same(parting(two=U, one=T), (0, (1, -1)))
        self.assertIs(alike(U, T), False)
        self.assertIs(alike(two=T, one=(2, ((0, 1), (1, -1)))), True)
        self.same(parting((2, ((0, 1), (1, -1))), T), None)

    def test_one_member(self):
        for one in every_lot(1):
            for two in every_lot(1):
                self.check(one, two)

    def test_more_members(self):
        for one in every_lot(2)[::29]:
            for two in every_lot(2)[::31]:
                self.check(one, two)
        for one, two in zip(some_lots(3, 60, 5), some_lots(3, 61, 5)[::-1]):
            self.check(one, two)
        for lot in some_lots(3, 12, 6) + some_lots(4, 3, 4):
            self.check(lot, led(lot))
            self.check(lot, lot)
            self.check(joined(lot, (lot[0], (level_of(lot[0]),))), lot)

    def test_edges(self):
        for n in range(1, 5):
            whole, none, flat = (n, every_row(n)), (n, ()), (n, (level_of(n),))
            self.assertIs(alike(whole, all_but_level(n)), True)
            self.assertIs(alike(whole, needing_all(n)), True)
            self.same(parting(none, none), None)
            self.same(parting(whole, none), (0, (-1,) * n))
            self.same(parting(none, needing_all(n)), (1, (-1,) * n))
            self.same(parting(flat, none), (0, level_of(n)))
            self.same(parting(flat, whole), (1, (-1,) * n))

    def test_at_five_members_and_more(self):
        for lot in MORE_LOTS:
            for call in (alike, parting):
                self.refused("TooMany", lot[0], call, lot, lot)
                self.refused("TooMany", lot[0], call, lot, (lot[0], ()))
                self.refused("Unlike", 0, call, lot, (4, ()))
                self.refused("Unlike", 0, call, (4, ()), lot)

    def test_what_is_asked_in_order(self):
        for call in (alike, parting):
            two_lots_refused_first(self, call)


class Break(Case):

    def check(self, lot):
        got = break_of(lot)
        self.same(break_of(lot), got)
        self.assertIs(got is None, led(lot) == lot)
        if got is not None:
            self.assertIs(type(got), tuple)
            one, two, row = got
            self.same(got, (tuple(one), tuple(two), tuple(row)))
            self.assertIn(one, lot[1])
            self.assertIn(two, lot[1])
            self.assertIn(row, summed(one, two))
            self.assertNotIn(row, lot[1])

    def test_examples(self):
        self.check((2, ((0, 1), (1, -1))))
        self.assertIsNotNone(break_of((2, ((0, 1), (1, -1)))))
        self.same(break_of(T), None)
        self.same(break_of(lot=U), None)

    def test_lots(self):
        for lot in MANY_LOTS + some_lots(4, 12, 60):
            self.check(lot)

    def test_edges(self):
        for n in range(1, 5):
            for rows in ((), every_row(n), (level_of(n),), ((1,) * n,), ((-1,) * n, level_of(n))):
                self.same(break_of((n, rows)), None)
            self.check(all_but_level(n))
            for row in every_row(n):
                self.check((n, tuple(each for each in every_row(n) if each != row)))
        for ladder in full_ladders(4)[::19]:
            self.same(break_of(climbing(4, ladder)), None)
            self.same(break_of(climbing_or_level(ladder, 4)), None)

    def test_at_five_members_and_more(self):
        for lot in MORE_LOTS:
            self.refused("TooMany", lot[0], break_of, lot)

    def test_the_lot_is_asked_first(self):
        lots_refused_first(self, break_of)


class ByTurns(Case):

    def check(self, one, two):
        rows = {row for first in one[1] for second in two[1] for row in summed(first, second)}
        self.same(by_turns(one, two), (one[0], tuple(sorted(rows))))

    def check_ways(self, one, two, each=1):
        """turns_way of each row, or each so manieth: barred just where by_turns cannot lead, true to [28] elsewhere."""
        lot = by_turns(one, two)
        for row in every_row(one[0])[::each]:
            if can_lead(lot, row):
                way = turns_way(one, two, row)
                self.same(turns_way(one, two, row), way)
                self.check_way(one, two, row, way)
            else:
                self.refused("Barred", 0, turns_way, one, two, row)

    def check_way(self, one, two, row, way):
        self.assertTrue(is_way_by((one[0], every_row(one[0])), way))
        steps = [order_of(new, old) for old, new in zip(way, way[1:])]
        self.assertIn(len(steps), range(2, 2 * (one[0] + 1) + 1, 2))
        self.assertLessEqual(set(steps[::2]), set(one[1]))
        self.assertLessEqual(set(steps[1::2]), set(two[1]))
        self.assertEqual(order_of(way[-1], way[0]), row)

    def test_example(self):
        one, two = (1, ((1,),)), (1, ((-1,),))
        self.same(by_turns(one, two), (1, ((-1,), (0,), (1,))))
        self.check_way(one, two, (0,), turns_way(one, two, (0,)))
        self.same(by_turns(two=one, one=two), (1, ((-1,), (0,), (1,))))
        self.check_way(two, one, (1,), turns_way(row=(1,), two=one, one=two))

    def test_one_member(self):
        for one in every_lot(1):
            for two in every_lot(1):
                self.check(one, two)
                self.check_ways(one, two)

    def test_more_members(self):
        pairs = list(product(every_lot(2)[::29], every_lot(2)[::31]))
        pairs += list(product(small_lots(2, 1), small_lots(2, 1)))
        pairs += list(zip(some_lots(3, 40, 7), some_lots(3, 41, 7)[::-1]))
        pairs += list(zip(some_lots(4, 8, 6), some_lots(4, 9, 6)[::-1]))
        for one, two in pairs:
            self.check(one, two)
            self.check_ways(one, two)

    def test_just_those_led_by_an_even_number_of_steps(self):
        pairs = list(product(every_lot(1), every_lot(1)))
        pairs += list(zip(some_lots(2, 30, 3), some_lots(2, 31, 3)[::-1]))
        for one, two in pairs:
            n = one[0]
            come = {steps for many in range(1, n + 2) for steps in product(product(one[1], two[1]), repeat=many)}
            lot = by_turns(one, two)
            for row in every_row(n):
                there = any(rows_lead([row for pair in steps for row in pair], row) for steps in come)
                self.assertIs(can_lead(lot, row), there)

    def test_edges(self):
        for n in range(1, 5):
            whole, none, flat = (n, every_row(n)), (n, ()), (n, (level_of(n),))
            for one, two in product((whole, none, flat, needing_all(n), all_but_level(n)), repeat=2):
                self.check(one, two)
                self.check_ways(one, two, 10 if n == 4 else 1)
            self.same(by_turns(whole, none), none)
            self.same(by_turns(none, whole), none)
            self.same(by_turns(flat, flat), flat)
            self.same(by_turns(flat, whole), whole)
            self.refused("Barred", 0, turns_way, whole, none, level_of(n))

    def test_as_many_steps_as_may_be_needed(self):
        for n in range(1, 5):
            flat = (n, (level_of(n),))
            way = turns_way(needing_all(n), flat, level_of(n))
            self.assertEqual(len(way) - 1, 2 * (n + 1))
            self.check_way(needing_all(n), flat, level_of(n), way)
            self.check_way(flat, needing_all(n), level_of(n), turns_way(flat, needing_all(n), level_of(n)))

    def test_at_five_members_and_more(self):
        for lot in MORE_LOTS:
            self.refused("TooMany", lot[0], by_turns, lot, lot)
            self.refused("TooMany", lot[0], turns_way, lot, lot, level_of(lot[0]))
            self.refused("BadRow", -1, turns_way, lot, lot, level_of(4))
            self.refused("BadRow", 0, turns_way, lot, lot, (None,) * lot[0])
            self.refused("Unlike", 0, by_turns, lot, (4, ()))
            self.refused("Unlike", 0, turns_way, lot, (4, ()), None)

    def test_what_is_asked_in_order(self):
        two_lots_refused_first(self, by_turns)
        two_lots_refused_first(self, turns_way, (0, 0))
        two_lots_refused_first(self, turns_way, None)
        rows_refused(self, turns_way, 2, (U, T))
        rows_refused(self, turns_way, 4, ((4, ()), (4, ())))
        rows_refused(self, turns_way, 5, ((5, ()), (5, ())))

    def test_equal_calls_behind_refused_ones(self):
        for _ in range(2):
            self.refused("Barred", 0, turns_way, U, U, (0, 0))
            self.refused("Unlike", 0, by_turns, U, (1, ()))
            self.check_ways(U, T)


class Quick(Case):

    def test_large_lots_are_told_quickly(self):
        begun = time.perf_counter()
        whole = (4, every_row(4))
        for lot in (whole, all_but_level(4), climbing_or_level(((3, 1), (1, -1), (0, 1), (2, 1)), 4)):
            for other in (whole, lot):
                self.same(parting(lot, other) is None, alike(lot, other))
                self.assertEqual(led(by_turns(lot, other))[0], 4)
                for row in (level_of(4), (0, 1, 0, 1), (1, 1, 1, 1)):
                    if can_lead(by_turns(lot, other), row):
                        self.assertLessEqual(len(turns_way(lot, other, row)), 11)
            self.assertIs(break_of(lot) is None, led(lot) == lot)
        self.assertLess(time.perf_counter() - begun, 30)


if __name__ == "__main__":
    unittest.main()
