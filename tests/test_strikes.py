"""Prices [23], how they can be found [24], and their examples [25]."""

import time
import unittest
from itertools import permutations, product

from common import (Case, DEEP, DEEP_PAIRS, LONG, NO_NUMBERS, NO_TUPLES, all_but_level, climbing, every_lot,
                    every_row, every_table, full_ladders, level_of, lots_refused_first, needing_all, rows_refused,
                    some_lots, some_tables, stand, tables_refused_first)
from roundorlist.counts import full_count
from roundorlist.rounds import goes_round
from roundorlist.strikes import bar_price, bar_strike, calm_price, calm_strike
from roundorlist.walking import can_lead

P = (2, ((0, 1), (1, 0), (1, 1)))
Q = (2, ((-1, 1), (1, -1), (1, 1)))
BIG = 10 ** 999

# Things that are no prices of two rows, and what is told of each.
NO_PRICES = tuple((thing, -1) for thing in NO_TUPLES + ((), (1,), (0,), (None,), (1, 1, 1), (0, 0, 0), DEEP, LONG))
NO_PRICES += tuple((pair, 0) for wrong in NO_NUMBERS + (0, -1, -BIG) for pair in ((wrong, 1), (wrong, wrong)))
NO_PRICES += tuple(((BIG, wrong), 1) for wrong in NO_NUMBERS + (0, -1, -BIG))
NO_PRICES += ((DEEP_PAIRS, 1), (((1, 2), (3, 4)), 0))


def prices_of(lot, many=3):
    """Some prices of a lot's rows, the same ones in each run."""
    return tuple(1 + (at * 7 + len(lot[1])) % many for at in range(len(lot[1])))


def parts_of(lot, prices):
    """All lots of rows that can be struck, each as the sum of their prices and what is left."""
    for chosen in product((False, True), repeat=len(lot[1])):
        price = sum(each for each, struck in zip(prices, chosen) if struck)
        yield price, (lot[0], tuple(row for row, struck in zip(lot[1], chosen) if not struck))


class PriceCase(Case):

    def left(self, lot, prices, price, struck):
        """What is left of the lot, the rows struck being some of its rows, rising, with this sum of prices."""
        self.same(struck, tuple(sorted(set(struck))))
        self.assertLessEqual(set(struck), set(lot[1]))
        self.same(price, sum(each for row, each in zip(lot[1], prices) if row in struck))
        return (lot[0], tuple(row for row in lot[1] if row not in struck))

    def struck_calm(self, table, prices):
        """The price of calm_price, when calm_strike is true to it."""
        price, struck = calm_price(table, prices), calm_strike(table, prices)
        self.same(calm_strike(table, prices), struck)
        self.assertIs(goes_round(self.left(table, prices, price, struck)), False)
        self.assertIs(price == 0, not goes_round(table))
        return price

    def struck_bar(self, lot, prices, row):
        """The price of bar_price, when bar_strike is true to it."""
        price, struck = bar_price(lot, prices, row), bar_strike(lot, prices, row)
        self.same(bar_strike(lot, prices, row), struck)
        self.assertIs(can_lead(self.left(lot, prices, price, struck), row), False)
        self.assertIs(price == 0, not can_lead(lot, row))
        if not any(row) and row in lot[1]:
            self.assertIn(row, struck)
        return price


class Calm(PriceCase):

    def check(self, table, prices):
        least = min(price for price, rest in parts_of(table, prices) if not goes_round(rest))
        self.same(self.struck_calm(table, prices), least)

    def test_examples(self):
        self.same(calm_price(Q, (2, 1, 1)), 1)
        self.same(calm_strike(Q, (2, 1, 1)), ((1, -1),))
        self.same(calm_price(prices=(1, 2, 9), table=Q), 1)
        self.same(calm_strike(prices=(1, 2, 9), table=Q), ((-1, 1),))

    def test_no_rows_and_no_round(self):
        for n in range(1, 7):
            self.same(calm_price((n, ()), ()), 0)
            self.same(calm_strike((n, ()), ()), ())
        self.same(calm_price(P, (5, 6, 7)), 0)
        self.same(calm_strike(P, (5, 6, 7)), ())

    def test_one_member(self):
        table = (1, ((-1,), (1,)))
        self.same((calm_price(table, (3, 2)), calm_strike(table, (3, 2))), (2, ((1,),)))
        self.same((calm_price(table, (2, 3)), calm_strike(table, (2, 3))), (2, ((-1,),)))
        self.same(calm_price(table, (BIG, BIG - 1)), BIG - 1)
        self.same(calm_price((1, ((-1,),)), (9,)), 0)

    def test_beside_all_that_can_be_struck(self):
        for table in every_table(1) + every_table(2):
            self.check(table, prices_of(table))
            self.check(table, prices_of(table, 1))
        for table in some_tables(3, 36, 9) + some_tables(4, 16, 8) + some_tables(5, 8, 8):
            self.check(table, prices_of(table))
            self.check(table, prices_of(table, 9))

    def test_all_prices_of_few_rows(self):
        for table in (Q, (2, ((-1, -1), (0, 1), (1, 0))), (2, ((-1, 0), (0, 1), (1, 0)))):
            for prices in product((1, 2, 3, 5), repeat=3):
                self.check(table, prices)

    def test_as_many_rows_as_are_needed_for_a_round(self):
        for n in range(1, 7):
            table = needing_all(n)
            for cheap in range(n + 1):
                prices = tuple(1 if at == cheap else 2 for at in range(n + 1))
                self.same(calm_price(table, prices), 1)
                self.same(calm_strike(table, prices), (table[1][cheap],))

    def test_half_of_all_rows(self):
        for n in range(1, 7):
            table = all_but_level(n)
            self.same(self.struck_calm(table, (1,) * len(table[1])), len(table[1]) // 2)
        # Of a row and its turned one at least one is struck, and a ladder that is climbed by the dear ones is left.
        ladder = ((5, -1), (3, 1), (0, 1), (1, -1), (2, -1), (4, 1))
        table = all_but_level(6)
        prices = tuple(BIG if stand(ladder, row) == 1 else 1 + at for at, row in enumerate(table[1]))
        self.same(calm_strike(table, prices), tuple(row for row in table[1] if stand(ladder, row) == -1))
        self.same(self.struck_calm(table, prices), sum(price for price in prices if price != BIG))

    def test_beside_all_full_ladders(self):
        for table in some_tables(4, 10, 80):
            prices = prices_of(table, 50)
            least = min(sum(price for row, price in zip(table[1], prices) if stand(ladder, row) == -1)
                        for ladder in full_ladders(4))
            self.same(self.struck_calm(table, prices), least)

    def test_prices_of_many_figures(self):
        for more in (0, BIG):
            table = (3, ((-1, 1, 1), (1, -1, 1), (1, 1, -1)))
            self.same(calm_price(table, (more + 3, more + 2, more + 5)), more + 2)
            self.same(calm_strike(table, (more + 3, more + 2, more + 5)), ((1, -1, 1),))
        table = (2, ((-1, 0), (0, 1), (1, 0)))
        self.same(calm_price(table, (BIG, 1, BIG + 1)), BIG)

    def test_what_is_asked_in_order(self):
        table = (1, ((-1,), (1,)))
        for call in (calm_price, calm_strike):
            for more in ((), None, (1, 1)):
                tables_refused_first(self, call, more)
            for thing, what in NO_PRICES:
                self.refused("BadPrices", what, call, table, thing)
            self.refused("BadPrices", 0, call, P, (0, 1, True))
            self.refused("BadPrices", 2, call, P, (1, 2, False))
            self.refused("BadPrices", -1, call, (6, ()), (1,))
            self.refused("BadPrices", -1, call, (6, ()), None)

    def test_equal_calls_behind_refused_ones(self):
        for _ in range(2):
            self.refused("BadPrices", 2, calm_strike, Q, (2, 1, 0))
            self.same(calm_strike(Q, (2, 1, 1)), ((1, -1),))


class Bar(PriceCase):

    def check(self, lot, prices):
        """bar_price and bar_strike of all rows, beside all lots of rows that can be struck."""
        parts = sorted(parts_of(lot, prices))
        for row in every_row(lot[0]):
            least = next(price for price, rest in parts if not can_lead(rest, row))
            self.same(self.struck_bar(lot, prices, row), least)

    def test_examples(self):
        self.same(bar_price(Q, (2, 1, 1), (1, 1)), 2)
        self.same(bar_strike(Q, (2, 1, 1), (1, 1)), ((1, -1), (1, 1)))
        self.same(bar_price(Q, (2, 1, 1), (-1, -1)), 1)
        self.same(bar_strike(Q, (2, 1, 1), (-1, -1)), ((1, -1),))
        self.same(bar_price(P, (5, 1, 1), (1, 1)), 2)
        self.same(bar_strike(P, (5, 1, 1), (1, 1)), ((1, 0), (1, 1)))
        self.same(bar_price((2, ((0, 0), (0, 1))), (3, 4), (0, 0)), 3)
        self.same(bar_strike((2, ((0, 0), (0, 1))), (3, 4), (0, 0)), ((0, 0),))

    def test_names_of_the_arguments(self):
        self.same(bar_price(row=(1, 1), prices=(2, 1, 1), lot=Q), 2)
        self.same(bar_strike(row=(-1, -1), prices=(2, 1, 1), lot=Q), ((1, -1),))

    def test_no_rows_and_rows_barred_anyway(self):
        for n in range(1, 7):
            for row in (level_of(n), (1,) * n, (-1,) * n):
                self.same(bar_price((n, ()), (), row), 0)
                self.same(bar_strike((n, ()), (), row), ())
        self.same(bar_price(P, (1, 1, 1), (1, -1)), 0)
        self.same(bar_strike(P, (1, 1, 1), (0, 0)), ())

    def test_one_member(self):
        for lot in every_lot(1):
            for prices in product((1, 2, 7), repeat=len(lot[1])):
                self.check(lot, prices)

    def test_beside_all_that_can_be_struck(self):
        for lot in every_lot(2)[::3] + some_lots(3, 32, 7) + some_lots(4, 7, 6):
            self.check(lot, prices_of(lot))
        for lot in some_lots(2, 24, 7) + some_lots(3, 10, 8):
            self.check(lot, prices_of(lot, 1))
            self.check(lot, prices_of(lot, 9))

    def test_the_level_row(self):
        for lot in every_lot(2)[1::2] + some_lots(3, 12, 20) + [(6, every_row(6))]:
            rows = tuple(row for row in lot[1] if any(row))
            table, flat = (lot[0], rows), (lot[0], tuple(sorted(rows + (level_of(lot[0]),))))
            prices = prices_of(table)
            calm = calm_price(table, prices)
            self.same(self.struck_bar(table, prices, level_of(lot[0])), calm)
            at = flat[1].index(level_of(lot[0]))
            more = prices[:at] + (BIG,) + prices[at:]
            self.same(self.struck_bar(flat, more, level_of(lot[0])), calm + BIG)

    def test_the_level_row_is_left_where_it_does_no_harm(self):
        lot = (2, ((0, 0), (0, 1), (1, 0)))
        self.same(bar_strike(lot, (9, 1, 1), (0, 1)), ((0, 1),))
        self.same(bar_price(lot, (9, 1, 1), (0, 1)), 1)
        self.same(bar_strike((1, ((0,), (1,))), (BIG, BIG), (1,)), ((1,),))

    def test_six_members(self):
        whole = (6, every_row(6))
        prices = (1,) * 729
        self.same(self.struck_bar(whole, prices, level_of(6)), 365)
        # A member with the sign contrary to the row's bars it, when the third of all rows that fall there is struck.
        self.same(self.struck_bar(whole, prices, (0, 0, 0, 0, 0, 1)), 243)
        self.same(self.struck_bar(whole, prices, (1,) * 6), 243)
        for lot in some_lots(6, 6, 300):
            for row in every_row(6)[::61]:
                self.struck_bar(lot, prices_of(lot, 40), row)

    def test_beside_all_ladders(self):
        for lot in some_lots(4, 6, 60):
            prices = prices_of(lot, 50)
            for row in every_row(4)[::5]:
                least = self.least_by_ladders(lot, prices, row)
                self.same(self.struck_bar(lot, prices, row), least)

    def least_by_ladders(self, lot, prices, row):
        """The least sum of prices by which some ladder comes to bar the row."""
        found = []
        for many in range(5):
            for members in permutations(range(4), many):
                for signs in product((-1, 1), repeat=many):
                    found.append(self.sum_by_ladder(lot, prices, row, tuple(zip(members, signs))))
        return min(price for price in found if price is not None)

    def sum_by_ladder(self, lot, prices, row, ladder):
        if stand(ladder, row) == 1:
            return None
        # Where the row is level on the ladder all rows that are left have to climb it.
        struck = (-1,) if stand(ladder, row) == -1 else (-1, 0)
        return sum(price for each, price in zip(lot[1], prices) if stand(ladder, each) in struck)

    def test_what_is_asked_in_order(self):
        lot = (2, ((0, 0), (1, 1)))
        for call in (bar_price, bar_strike):
            for more in (((), (0, 0)), (None, None), ((1,), (0,))):
                lots_refused_first(self, call, *more)
            for thing, what in NO_PRICES:
                self.refused("BadPrices", what, call, lot, thing, (0, 0))
                self.refused("BadPrices", what, call, lot, thing, None)
            rows_refused(self, call, 2, (lot, (1, 1)))
            rows_refused(self, call, 6, ((6, ()), ()))

    def test_equal_calls_behind_refused_ones(self):
        for _ in range(2):
            self.refused("BadPrices", 1, bar_strike, Q, (2, 0, 1), (1, 1))
            self.refused("BadRow", 1, bar_strike, Q, (2, 1, 1), (1, 2))
            self.same(bar_strike(Q, (2, 1, 1), (1, 1)), ((1, -1), (1, 1)))


class Quick(PriceCase):

    def test_large_lots_and_prices_are_told_quickly(self):
        begun = time.perf_counter()
        table, whole = all_but_level(6), (6, every_row(6))
        self.struck_calm(table, tuple(BIG - at for at in range(728)))
        for row in every_row(6)[::24]:
            self.struck_bar(whole, tuple(BIG // 1000 + at for at in range(729)), row)
        for ladder in full_ladders(6)[::5000]:
            calm = climbing(6, ladder)
            self.assertEqual(full_count(calm), 1)
            self.same(self.struck_calm(calm, (BIG,) * 364), 0)
            self.struck_bar(calm, (BIG,) * 364, calm[1][100])
        self.assertLess(time.perf_counter() - begun, 30)


if __name__ == "__main__":
    unittest.main()
