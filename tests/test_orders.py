"""Orders [29], what ladders let by [30], orders by their ladders [31]."""

import time
import unittest
from itertools import product

from common import (BAD_LADDERS, Case, DEEP, DEEP_PAIRS, LONG, NO_MANY, NO_TUPLES, all_but_level, climbing,
                    every_ladder, every_lot, every_row, full_ladders, is_heeded, is_way_by, level_of,
                    lots_refused_first, needing_all, order_of, some_lots, stand)
from roundorlist.ledlots import break_of, led
from roundorlist.orders import against, is_order, let_by, longest, never_apart, one_ladder

FIRST = (2, ((0, 0), (0, 1), (1, 0), (1, 1)))
ONE = (2, ((0, 0), (0, 1), (1, -1), (1, 0), (1, 1)))
MORE_LOTS = [(n, rows) for n in (5, 6) for rows in ((), every_row(n), needing_all(n)[1], (level_of(n),))]


def let_told(n, ladders):
    return (n, tuple(row for row in every_row(n) if all(stand(ladder, row) != -1 for ladder in ladders)))


def with_level(lot):
    return (lot[0], tuple(sorted(set(lot[1] + (level_of(lot[0]),)))))


def is_order_of_motions(lot, motions):
    """Whether the lot is an order ([29]) as far as these motions tell."""
    high = {(one, two): order_of(one, two) in lot[1] for one in motions for two in motions}
    if not all(high[one, one] for one in motions):
        return False
    return not any(high[z, y] and high[y, x] and not high[z, x] for x, y, z in product(motions, repeat=3))


class Orders(Case):

    def check(self, lot):
        """is_order and against tell the same, as [29] has it."""
        flat = level_of(lot[0]) in lot[1]
        whole = flat and led(lot) == lot
        self.assertIs(is_order(lot), whole)
        self.assertIs(is_order(lot), flat and break_of(lot) is None)
        got = against(lot)
        self.same(against(lot), got)
        if whole:
            self.same(got, None)
        elif not flat:
            self.same(got, ("level",))
        else:
            self.assertEqual(got[0], "three")
            self.assertEqual(len(got), 2)
            self.check_three(lot, got[1])

    def check_three(self, lot, way):
        self.assertTrue(is_way_by(lot, way))
        self.assertEqual(len(way), 3)
        self.assertNotIn(order_of(way[2], way[0]), lot[1])

    def test_examples(self):
        self.same(against((2, ((0, 1),))), ("level",))
        self.same(against(lot=(2, ((0, 0), (0, 1), (1, -1))))[0], "three")
        self.check((2, ((0, 0), (0, 1), (1, -1))))
        self.assertIs(is_order(FIRST), True)
        self.assertIs(is_order(lot=(2, ((0, 1),))), False)
        self.same(against(ONE), None)

    def test_lots(self):
        for lot in every_lot(1) + every_lot(2) + some_lots(3, 40, 12) + some_lots(4, 8, 40):
            self.check(lot)
            self.check(with_level(lot))
            self.check(led(with_level(lot)))

    def test_beside_motions_of_any_heights(self):
        motions = tuple(product(range(3), repeat=1))
        for lot in every_lot(1):
            self.assertIs(is_order(lot), is_order_of_motions(lot, motions))
        motions = tuple(product(range(3), repeat=2))
        for lot in every_lot(2)[::3]:
            self.assertIs(is_order(with_level(lot)), is_order_of_motions(with_level(lot), motions))
            self.assertIs(is_order(lot), is_order_of_motions(lot, motions))

    def test_edges(self):
        for n in range(1, 5):
            self.same(against((n, ())), ("level",))
            self.assertIs(is_order((n, ())), False)
            self.same(against(all_but_level(n)), ("level",))
            self.assertIs(is_order((n, every_row(n))), True)
            self.assertIs(is_order((n, (level_of(n),))), True)
            self.check(with_level(needing_all(n)))
        for ladder in full_ladders(4)[::19]:
            self.same(against(climbing(4, ladder)), ("level",))
            self.assertIs(is_order(with_level(climbing(4, ladder))), True)

    def test_at_five_members_and_more(self):
        for call in (is_order, against, never_apart, longest, one_ladder):
            for lot in MORE_LOTS:
                self.refused("TooMany", lot[0], call, lot)

    def test_the_lot_is_asked_first(self):
        for call in (is_order, against, never_apart, longest, one_ladder):
            lots_refused_first(self, call)
            self.refused("BadLot", 1, call, (5, (level_of(5), level_of(5))))

    def test_equal_calls_behind_refused_ones(self):
        for _ in range(2):
            self.refused("TooMany", 5, against, (5, ()))
            self.check((2, ((0, 0), (0, 1), (1, -1))))


class NeverApart(Case):

    def test_lots(self):
        for lot in every_lot(1) + every_lot(2) + some_lots(3, 40, 27) + some_lots(4, 10, 81):
            rows = set(lot[1])
            wanted = all(row in rows or tuple(-sign for sign in row) in rows for row in every_row(lot[0]))
            self.assertIs(never_apart(lot), wanted)

    def test_edges(self):
        self.assertIs(never_apart(ONE), True)
        self.assertIs(never_apart(lot=FIRST), False)
        for n in range(1, 5):
            self.assertIs(never_apart((n, every_row(n))), True)
            self.assertIs(never_apart(all_but_level(n)), False)
            self.assertIs(never_apart((n, ())), False)
            for at in range(len(every_row(n)) // 2 + 1):
                self.assertIs(never_apart((n, every_row(n)[at:])), True)
            self.assertIs(never_apart((n, every_row(n)[len(every_row(n)) // 2 + 1:])), False)
        for ladder in full_ladders(3):
            self.assertIs(never_apart(climbing(3, ladder)), False)
            self.assertIs(never_apart(with_level(climbing(3, ladder))), True)


class LetBy(Case):

    def test_examples(self):
        self.same(let_by(2, (((0, 1),), ((1, 1),))), FIRST)
        self.same(let_by(ladders=(), n=2), (2, every_row(2)))

    def test_ladders(self):
        for n in (1, 2):
            for one in every_ladder(n):
                for two in every_ladder(n):
                    self.same(let_by(n, (one, two)), let_told(n, (one, two)))
        for n in (3, 4):
            ladders = every_ladder(n)
            for at in range(0, len(ladders), 40):
                some = tuple(ladders[at::70])
                self.same(let_by(n, some), let_told(n, some))
                self.assertIs(is_order(let_by(n, some)), True)

    def test_edges(self):
        for n in range(1, 5):
            self.same(let_by(n, ()), (n, every_row(n)))
            self.same(let_by(n, ((),)), (n, every_row(n)))
            self.same(let_by(n, ((),) * 400), (n, every_row(n)))
            self.same(let_by(n, (((0, -1),), ((0, 1),))), let_told(n, (((0, -1),), ((0, 1),))))
            every = tuple(every_ladder(n))[:400]
            self.same(let_by(n, every), let_told(n, every))
        self.same(let_by(4, tuple(full_ladders(4))), (4, (level_of(4),)))

    def test_always_an_order(self):
        for n in (1, 2):
            for chosen in product((False, True), repeat=len(every_ladder(n)[:9])):
                ladders = tuple(ladder for ladder, kept in zip(every_ladder(n), chosen) if kept)
                self.assertIs(is_order(let_by(n, ladders)), True)

    def test_too_many_ladders(self):
        for ladder in ((), ((0, 1),), None):
            self.refused("BadLadders", -1, let_by, 2, (ladder,) * 401)
        self.refused("BadLadders", 399, let_by, 2, ((),) * 399 + (None,))

    def test_what_is_asked_in_order(self):
        for n in NO_MANY:
            for thing in ((), None, (None,), ((),) * 401):
                self.refused("BadMany", n, let_by, n, thing)
        for n in (2, 5, 6):
            for thing in NO_TUPLES + (LONG, ((),) * 401):
                self.refused("BadLadders", -1, let_by, n, thing)
        for bad in BAD_LADDERS + NO_TUPLES + (DEEP, DEEP_PAIRS, LONG):
            for index in (0, 1, 399):
                self.refused("BadLadders", index, let_by, 2, (((1, -1),),) * index + (bad,) * (400 - index))
        for n in (5, 6):
            self.refused("BadLadders", 1, let_by, n, ((), ((n, 1),)))
            for thing in ((), ((),), (((n - 1, 1),),) * 400):
                self.refused("TooMany", n, let_by, n, thing)
        self.refused("BadLadders", 0, let_by, 1, (((1, 1),),))


class Longest(Case):

    def check(self, lot):
        heeded = [ladder for ladder in every_ladder(lot[0]) if is_heeded(lot, ladder)]
        begun = {ladder[:at] for ladder in heeded for at in range(len(ladder))}
        self.same(longest(lot), tuple(sorted(ladder for ladder in heeded if ladder not in begun)))

    def test_examples(self):
        self.same(longest(FIRST), (((0, 1), (1, 1)), ((1, 1), (0, 1))))
        self.same(longest((2, every_row(2))), ((),))
        self.same(longest(lot=(1, ())), (((0, -1),), ((0, 1),)))

    def test_lots(self):
        for lot in every_lot(1) + every_lot(2) + some_lots(3, 60, 9) + some_lots(4, 12, 8):
            self.check(lot)

    def test_edges(self):
        for n in range(1, 5):
            full = tuple(sorted(full_ladders(n)))
            self.same(longest((n, ())), full)
            self.same(longest((n, (level_of(n),))), full)
            self.same(longest((n, every_row(n))), ((),))
            self.same(longest(all_but_level(n)), ((),))
        self.assertEqual(len(longest((4, ()))), 384)
        self.check((3, ((0, 0, 0), (0, 1, 0))))
        self.check((4, ((0, 0, 1, -1), (0, 0, 1, 0))))

    def test_what_they_let_by_is_the_lot_exactly_if_it_is_an_order(self):
        lots = every_lot(1) + every_lot(2) + some_lots(3, 60, 9) + some_lots(4, 12, 6)
        for lot in [with_level(lot) for lot in lots]:
            self.assertIs(let_by(lot[0], longest(lot)) == lot, is_order(lot))
            self.same(let_by(lot[0], longest(led(lot))), led(lot))
        self.same(let_by(1, longest((1, ()))), (1, ((0,),)))


class OneLadder(Case):

    def test_examples(self):
        self.same(one_ladder(FIRST), None)
        self.same(one_ladder(ONE), ((0, 1), (1, 1)))
        self.same(one_ladder(lot=(2, every_row(2))), ())

    def test_each_ladder(self):
        for n in (1, 2, 3, 4):
            for ladder in every_ladder(n):
                self.same(one_ladder(let_by(n, (ladder,))), ladder)

    def test_never_two(self):
        for n in (1, 2):
            for lot in every_lot(n):
                ladders = [ladder for ladder in every_ladder(n) if let_told(n, (ladder,)) == lot]
                self.assertLessEqual(len(ladders), 1)
                self.same(one_ladder(lot), ladders[0] if ladders else None)

    def test_there_is_one_exactly_if_an_order_and_never_apart(self):
        lots = every_lot(1) + every_lot(2) + some_lots(3, 80, 27) + some_lots(4, 20, 81)
        lots += [led(lot) for lot in some_lots(3, 80, 14)]
        for lot in lots:
            self.assertIs(one_ladder(lot) is not None, is_order(lot) and never_apart(lot))

    def test_one_row_more_or_less(self):
        for ladder in every_ladder(3)[::3]:
            rows = let_by(3, (ladder,))[1]
            for row in every_row(3):
                changed = (3, tuple(sorted(set(rows) ^ {row})))
                wanted = [other for other in every_ladder(3) if let_told(3, (other,)) == changed]
                self.same(one_ladder(changed), wanted[0] if wanted else None)

    def test_edges(self):
        for n in range(1, 5):
            for rows in ((), (level_of(n),), all_but_level(n)[1]):
                self.same(one_ladder((n, rows)), None)
        self.same(one_ladder(climbing(4, full_ladders(4)[7])), None)


class Quick(Case):

    def test_large_lots_are_told_quickly(self):
        begun = time.perf_counter()
        lots = [(4, every_row(4)), all_but_level(4), (4, ()), (4, (level_of(4),))]
        lots += [with_level(climbing(4, ladder)) for ladder in full_ladders(4)[::60]] + some_lots(4, 20, 81)
        for lot in lots:
            self.assertIs(is_order(lot), against(lot) is None)
            self.assertIs(one_ladder(lot) is not None, is_order(lot) and never_apart(lot))
            self.assertLessEqual(set(lot[1]), set(let_by(4, longest(lot))[1]))
        self.same(let_by(4, longest((4, ())) + longest((4, ()))[:16]), (4, (level_of(4),)))
        self.assertLess(time.perf_counter() - begun, 30)


if __name__ == "__main__":
    unittest.main()
