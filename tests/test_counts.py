"""Tight ladders [19] and their order [20], heads [21], full ladders [22], and their examples [25]."""

import time
import unittest
from itertools import permutations

from common import (Case, NO_NUMBERS, all_but_level, climbing, every_ladder, every_lot, every_row, every_table,
                    full_ladders, is_climbed, ladders_refused, level_of, lots_refused_first, needing_all, some_lots,
                    some_tables, stand, tables_refused_first, tight_ladders)
from roundorlist.counts import count, full_count, heads, leads_all, nth, number
from roundorlist.ladders import climbed
from roundorlist.rounds import goes_round, ladder_of
from roundorlist.walking import can_lead

P = (2, ((0, 1), (1, 0), (1, 1)))
V = (3, ((0, 1, 1), (1, -1, 1), (1, 0, 1), (1, 1, -1), (1, 1, 0), (1, 1, 1)))
W = (3, ((-1, 1, 1), (1, -1, 1), (1, 1, -1)))
BIG = 10 ** 999


def no_one_under(n):
    """The table of all rows in which nobody is under and somebody over."""
    return (n, tuple(row for row in every_row(n) if -1 not in row and 1 in row))


def heads_told(lot):
    return tuple((member, sign) for member in range(lot[0]) for sign in (-1, 1)
                 if not any(row[member] == -sign for row in lot[1]))


class Tight(Case):

    def check(self, table):
        """count, nth and number of all tight ladders of a table, and of no others."""
        tight = tight_ladders(table)
        self.same(count(table), len(tight))
        for k, ladder in enumerate(tight):
            self.same(nth(table, k), ladder)
            self.same(number(table, ladder), k)
        for k in (-1, len(tight), len(tight) + 1, True, False):
            self.refused("BadNumber", k, nth, table, k)

    def check_others(self, table):
        """number refuses all ladders that are not tight."""
        tight = tight_ladders(table)
        for ladder in every_ladder(table[0]):
            if ladder not in tight:
                self.refused("NotTight", 0, number, table, ladder)

    def test_examples(self):
        self.same(count(P), 2)
        self.same(nth(P, 0), ((0, 1), (1, 1)))
        self.same(nth(P, 1), ((1, 1), (0, 1)))
        self.same(number(P, ((1, 1), (0, 1))), 1)
        self.refused("NotTight", 0, number, P, ((0, 1),))
        self.same(count(V), 2)
        self.same((nth(V, 0), nth(V, 1)), (((0, 1), (1, 1)), ((0, 1), (2, 1))))
        self.same(count(W), 0)
        self.check(P)
        self.check(V)
        self.check(W)

    def test_names_of_the_arguments(self):
        self.same(count(table=P), 2)
        self.same(nth(k=1, table=P), ((1, 1), (0, 1)))
        self.same(number(ladder=((1, 1), (0, 1)), table=P), 1)

    def test_the_table_without_rows(self):
        for n in range(1, 7):
            self.same(count((n, ())), 1)
            self.same(nth((n, ()), 0), ())
            self.same(number((n, ()), ()), 0)
            self.refused("BadNumber", 1, nth, (n, ()), 1)
            self.refused("NotTight", 0, number, (n, ()), ((0, 1),))
        self.check_others((3, ()))

    def test_one_member(self):
        for table in every_table(1):
            self.check(table)
            self.check_others(table)
        self.same(nth((1, ((-1,),)), 0), ((0, -1),))
        self.same(count((1, ((-1,), (1,)))), 0)

    def test_beside_a_plain_listing(self):
        for table in every_table(2) + some_tables(3, 80, 8) + some_tables(4, 8, 6):
            self.check(table)
        for table in every_table(2) + some_tables(3, 30, 6) + some_tables(4, 3, 4):
            self.check_others(table)

    def test_cut_short_too_long_and_turned(self):
        for table in (P, V, no_one_under(4), (6, ((0, 0, -1, 0, 0, 1), (0, 0, 0, 0, 1, -1)))):
            for k in range(count(table)):
                ladder = nth(table, k)
                others = [ladder[:at] for at in range(len(ladder))]
                others += [ladder[:at] + ((member, -sign),) + ladder[at + 1:]
                           for at, (member, sign) in enumerate(ladder)]
                free = [member for member in range(table[0]) if member not in [held for held, _ in ladder]]
                others += [ladder + ((member, sign),) for member in free for sign in (-1, 1)]
                for other in others:
                    self.refused("NotTight", 0, number, table, other)

    def test_one_that_is_climbed_but_not_tight(self):
        table = (3, ((0, 1, 1), (1, 0, 0)))
        ladder = ((0, 1), (1, 1), (2, 1))
        self.assertIs(climbed(table, ladder), True)
        self.refused("NotTight", 0, number, table, ladder)
        self.same(number(table, ladder[:2]), 0)
        self.refused("NotTight", 0, number, (3, ((0, 1, 0),)), ((0, -1), (1, 1)))

    def test_members_that_are_0_in_all_rows(self):
        table = (4, ((0, 0, 1, -1), (0, 0, 1, 0)))
        self.same([nth(table, k) for k in range(count(table))], [((2, 1),), ((3, -1), (2, 1))])
        self.check(table)
        self.check_others(table)

    def test_the_signs_do_not_matter_in_the_order(self):
        table = (3, ((-1, 1, 0), (-1, 1, 1), (0, 1, -1)))
        self.same([nth(table, k) for k in range(count(table))], [((0, -1), (1, 1)), ((0, -1), (2, -1)), ((1, 1),)])
        table = (2, ((-1, -1), (-1, 0), (0, -1)))
        self.same([nth(table, k) for k in range(count(table))], [((0, -1), (1, -1)), ((1, -1), (0, -1))])

    def test_a_table_that_goes_round(self):
        for table in (W, (2, ((-1, 1), (1, -1))), needing_all(6), all_but_level(6), all_but_level(1)):
            self.assertIs(goes_round(table), True)
            self.same(count(table), 0)
            for k in (0, 1, -1, True):
                self.refused("BadNumber", k, nth, table, k)
            for ladder in ((), ((0, 1),), tuple((member, 1) for member in range(table[0]))):
                self.refused("NotTight", 0, number, table, ladder)
        # The first member is over in all rows, and behind it the others go round.
        table = (3, ((0, -1, 1), (0, 1, -1), (1, 0, 0)))
        self.check(table)
        self.check_others(table)

    def test_all_orders_of_six_members(self):
        table = no_one_under(6)
        self.assertEqual(len(table[1]), 63)
        self.same(count(table), 720)
        for k, order in enumerate(permutations(range(6))):
            if k % 17 == 0 or k == 719:
                ladder = tuple((member, 1) for member in order)
                self.same(nth(table, k), ladder)
                self.same(number(table, ladder), k)
        self.refused("BadNumber", 720, nth, table, 720)
        self.refused("BadNumber", -1, nth, table, -1)
        self.refused("NotTight", 0, number, table, tuple((member, 1) for member in range(5)))

    def test_all_rows_that_climb_one_ladder(self):
        for ladder in every_ladder(3):
            self.same([nth(climbing(3, ladder), k) for k in range(count(climbing(3, ladder)))], [ladder])
        ladder = ((5, -1), (3, 1), (0, 1), (1, -1), (2, -1), (4, 1))
        self.same(count(climbing(6, ladder)), 1)
        self.same(nth(climbing(6, ladder), 0), ladder)
        self.same(number(climbing(6, ladder), ladder), 0)

    def test_what_is_no_number(self):
        for k in NO_NUMBERS + (BIG, -BIG, -1, 2):
            self.refused("BadNumber", k, nth, P, k)
        for k in NO_NUMBERS + (1,):
            self.refused("BadNumber", k, nth, (2, ((0, 1),)), k)

    def test_what_is_asked_in_order(self):
        tables_refused_first(self, count)
        for more in (0, -1, None, True):
            tables_refused_first(self, nth, more)
        for more in ((), None, ((7, 7),)):
            tables_refused_first(self, number, more)
        ladders_refused(self, number, (P,))
        ladders_refused(self, number, ((2, ()),))
        ladders_refused(self, number, (all_but_level(2),))
        self.refused("BadLadder", 1, number, P, ((0, 1), (0, 1)))

    def test_equal_calls_behind_refused_ones(self):
        for _ in range(2):
            self.refused("BadNumber", 2, nth, P, 2)
            self.refused("NotTight", 0, number, P, ((0, 1),))
            self.check(P)


class GoesOn(Case):

    def test_never_the_beginning_of_another_one(self):
        for table in every_table(2) + some_tables(3, 60, 7):
            tight = [nth(table, k) for k in range(count(table))]
            for one in tight:
                for two in tight:
                    self.assertIs(two[:len(one)] == one, one == two)

    def test_at_least_one_exactly_if_it_does_not_go_round(self):
        tables = every_table(2) + some_tables(3, 80, 20) + some_tables(4, 20, 12) + some_tables(6, 20, 9)
        for table in tables:
            self.assertIs(count(table) == 0, goes_round(table))
            if count(table):
                self.same(nth(table, 0), ladder_of(table))
                self.assertIs(climbed(table, nth(table, count(table) - 1)), True)

    def test_each_beginning_goes_on(self):
        for table in every_table(2) + some_tables(3, 60, 6):
            if not goes_round(table):
                self.check_beginnings(table, ())

    def check_beginnings(self, table, begun):
        self.assertTrue(any(ladder[:len(begun)] == begun for ladder in tight_ladders(table)), (table, begun))
        left = [row for row in table[1] if stand(begun, row) == 0]
        for member in range(table[0]):
            signs = {row[member] for row in left} - {0}
            if len(signs) == 1:
                self.check_beginnings(table, begun + ((member, signs.pop()),))


class Heads(Case):

    def check(self, lot):
        self.same(heads(lot), heads_told(lot))
        self.assertIs(leads_all(lot), all(can_lead(lot, row) for row in every_row(lot[0])))
        self.assertIs(leads_all(lot), lot[1] != () and heads_told(lot) == ())

    def test_examples(self):
        self.same(heads(P), ((0, 1), (1, 1)))
        self.same(heads(V), ((0, 1),))
        self.same(heads(lot=W), ())
        self.assertIs(leads_all(W), True)
        self.assertIs(leads_all(lot=P), False)

    def test_lots(self):
        for lot in every_lot(1) + every_lot(2) + some_lots(3, 120, 12) + some_lots(4, 20, 8):
            self.check(lot)

    def test_no_rows_and_level_rows(self):
        for n in range(1, 7):
            pairs = tuple((member, sign) for member in range(n) for sign in (-1, 1))
            self.assertEqual(len(pairs), 2 * n)
            for lot in ((n, ()), (n, (level_of(n),))):
                self.same(heads(lot), pairs)
                self.assertIs(leads_all(lot), False)

    def test_a_lot_that_has_the_level_row(self):
        self.same(heads((2, ((0, 0), (0, 1)))), ((0, -1), (0, 1), (1, 1)))
        self.assertIs(leads_all((1, ((-1,), (0,), (1,)))), True)
        self.check((3, ((-1, 0, 1), (0, 0, 0), (1, 0, -1))))
        self.same(heads((3, ((-1, 0, 1), (0, 0, 0), (1, 0, -1)))), ((1, -1), (1, 1)))

    def test_six_members(self):
        self.assertIs(leads_all((6, every_row(6))), True)
        self.assertIs(leads_all(all_but_level(6)), True)
        self.assertIs(leads_all(needing_all(6)), True)
        self.same(heads((6, needing_all(6)[1][1:])), tuple((member, 1) for member in range(6)))
        self.same(heads(climbing(6, ((3, -1), (2, 1)))), ((3, -1),))

    def test_what_is_asked(self):
        lots_refused_first(self, heads)
        lots_refused_first(self, leads_all)


class Full(Case):

    def check(self, table):
        many = len([ladder for ladder in full_ladders(table[0]) if is_climbed(table, ladder)])
        self.same(full_count(table), many)
        self.assertIs(many == 0, goes_round(table))

    def test_examples(self):
        self.same(full_count(P), 2)
        self.same(full_count(table=V), 4)
        self.same(full_count(W), 0)

    def test_the_table_without_rows(self):
        self.same([full_count((n, ())) for n in range(1, 7)], [2, 8, 48, 384, 3840, 46080])

    def test_beside_a_plain_listing(self):
        for table in every_table(1) + every_table(2) + some_tables(3, 120, 9) + some_tables(4, 20, 8):
            self.check(table)

    def test_members_that_are_0_in_all_rows(self):
        self.same(full_count((2, ((0, 1),))), 4)
        self.same(full_count((3, ((0, 1, 0),))), 24)
        self.same(full_count((6, ((0, 0, 0, 0, 0, -1),))), 23040)
        self.check((4, ((0, 0, 1, -1), (0, 0, 1, 0))))

    def test_six_members(self):
        self.same(full_count(no_one_under(6)), 720)
        self.same(full_count(all_but_level(6)), 0)
        self.same(full_count(needing_all(6)), 0)
        for ladder in full_ladders(6)[::5000]:
            self.same(full_count(climbing(6, ladder)), 1)
            self.same(full_count(climbing(6, ladder[:5])), 2)
            self.same(full_count(climbing(6, ladder[:4])), 8)

    def test_what_is_asked(self):
        tables_refused_first(self, full_count)


class Quick(Case):

    def test_large_tables_are_told_quickly(self):
        begun = time.perf_counter()
        tables = [all_but_level(6), no_one_under(6), (6, ())] + some_tables(6, 30, 700)
        for table in tables + [climbing(6, ladder) for ladder in full_ladders(6)[::4000]]:
            many = count(table)
            self.assertIs(many == 0, full_count(table) == 0)
            for k in range(0, many, 37):
                self.same(number(table, nth(table, k)), k)
            self.assertIs(leads_all(table), heads(table) == () and table[1] != ())
        self.assertLess(time.perf_counter() - begun, 30)


if __name__ == "__main__":
    unittest.main()
