"""Rounds [17], round or ladder [18], and what holds of both ([0.3] (a))."""

import time
import unittest
from itertools import combinations

from common import (Case, all_but_level, climbing, every_ladder, every_row, every_table, full_ladders, is_climbed,
                    is_way_by, level_of, needing_all, rows_lead, small_lots, some_tables, tables_refused_first,
                    tight_ladders)
from roundorlist.ladders import climbed
from roundorlist.rounds import goes_round, ladder_of, round_of, round_size

U = (2, ((0, 1), (1, 0), (1, 1)))
V = (3, ((0, 1, 1), (1, -1, 1), (1, 0, 1), (1, 1, -1), (1, 1, 0), (1, 1, 1)))
W = (3, ((-1, 1, 1), (1, -1, 1), (1, 1, -1)))
PAIR = (2, ((-1, 1), (1, -1)))
THREE = (2, ((-1, -1), (0, 1), (1, 0)))


def least_size(table):
    """The least number of rows of the table that lead to the level row, None if none do."""
    for many in range(1, table[0] + 2):
        if any(rows_lead(rows, level_of(table[0])) for rows in combinations(table[1], many)):
            return many
    return None


class RoundCase(Case):

    def check_round(self, table):
        """round_of returns a round of the table as [17] wants it."""
        way = round_of(table)
        self.same(round_of(table), way)
        self.assertTrue(is_way_by(table, way), table)
        self.assertEqual(way[-1], way[0])
        self.assertTrue(2 <= len(way) - 1 <= table[0] + 1)

    def check(self, table):
        """Just one of the two is there, a round or a ladder, and all of [17] and [18] tell so."""
        if ladder_of(table) is None:
            self.assertIs(goes_round(table), True)
            self.check_round(table)
        else:
            self.assertIs(goes_round(table), False)
            self.same(round_of(table), None)
            self.assertTrue(is_climbed(table, ladder_of(table)))
            self.assertIs(climbed(table, ladder_of(table)), True)


class Rounds(RoundCase):

    def test_examples(self):
        self.assertIs(goes_round(PAIR), True)
        self.assertIs(goes_round(U), False)
        self.assertIs(goes_round(V), False)
        self.assertIs(goes_round(table=W), True)
        self.check_round(PAIR)
        self.same(round_of(table=U), None)
        self.same(round_size(THREE), 3)
        self.same(round_size(table=W), 3)
        self.same(round_size(PAIR), 2)
        self.same(round_size(U), None)

    def test_the_table_without_rows(self):
        for n in range(1, 7):
            self.assertIs(goes_round((n, ())), False)
            self.same(round_of((n, ())), None)
            self.same(ladder_of((n, ())), ())
        for n in range(1, 5):
            self.same(round_size((n, ())), None)

    def test_one_member(self):
        for table in every_table(1):
            both = table[1] == ((-1,), (1,))
            self.assertIs(goes_round(table), both)
            self.same(round_size(table), 2 if both else None)
            self.check(table)

    def test_goes_round_exactly_if_no_ladder_is_climbed(self):
        tables = every_table(1) + every_table(2) + some_tables(3, 120, 9) + some_tables(4, 12, 10)
        for table in tables:
            none = not any(is_climbed(table, ladder) for ladder in every_ladder(table[0]))
            self.assertIs(goes_round(table), none, table)

    def test_some_rows_lead_to_the_level_row(self):
        for table in every_table(2) + some_tables(3, 60, 8):
            self.assertIs(goes_round(table), least_size(table) is not None)

    def test_as_many_steps_as_may_be_needed(self):
        for n in range(1, 7):
            table = needing_all(n)
            self.check_round(table)
            self.assertEqual(len(round_of(table)), n + 2)
            for at in range(n + 1):
                rest = (n, table[1][:at] + table[1][at + 1:])
                self.check(rest)
                self.same(round_of(rest), None)


class Size(RoundCase):

    def test_beside_combinations(self):
        for table in every_table(1) + every_table(2) + some_tables(3, 60, 12) + some_tables(4, 12, 8):
            self.same(round_size(table), least_size(table))

    def test_beside_goes_round_and_round_of(self):
        for table in some_tables(4, 40, 40):
            size = round_size(table)
            self.assertIs(size is not None, goes_round(table))
            if size is not None:
                self.assertLessEqual(size, len(round_of(table)) - 1)

    def test_at_four_and_at_five_members(self):
        self.same(round_size(needing_all(4)), 5)
        self.same(round_size((4, needing_all(4)[1][1:])), None)
        self.same(round_size(all_but_level(4)), 2)
        for n in (5, 6):
            for table in ((n, ()), needing_all(n), all_but_level(n), climbing(n, ((0, 1), (n - 1, -1)))):
                self.refused("TooMany", n, round_size, table)

    def test_the_table_is_asked_ahead_of_its_members(self):
        self.refused("BadTable", 0, round_size, (5, (level_of(5),)))
        self.refused("BadTable", -1, round_size, (6, None))
        self.refused("BadMany", 7, round_size, (7, ()))


class Ladder(RoundCase):

    def test_examples(self):
        self.same(ladder_of(U), ((0, 1), (1, 1)))
        self.same(ladder_of(V), ((0, 1), (1, 1)))
        self.same(ladder_of((2, ((-1, 0), (0, 1)))), ((0, -1), (1, 1)))
        self.same(ladder_of(table=PAIR), None)

    def test_the_first_of_the_tight_ones(self):
        for table in every_table(1) + every_table(2) + some_tables(3, 100, 7) + some_tables(4, 10, 6):
            tight = tight_ladders(table)
            self.same(ladder_of(table), tight[0] if tight else None)

    def test_members_that_are_0_in_all_rows(self):
        self.same(ladder_of((4, ((0, 0, 0, -1), (0, 0, 0, 1)))), None)
        self.same(ladder_of((4, ((0, 0, 0, -1),))), ((3, -1),))
        self.same(ladder_of((6, ((0, 0, -1, 0, 0, 1), (0, 0, 0, 0, 1, -1)))), ((2, -1), (4, 1)))
        self.check((6, ((0, 0, -1, 0, 0, 1), (0, 0, 1, 0, 1, -1))))

    def test_all_rows_that_climb_one_ladder(self):
        for ladder in full_ladders(3) + full_ladders(4)[::23]:
            self.same(ladder_of(climbing(len(ladder), ladder)), ladder)
        ladder = ((5, -1), (3, 1), (0, 1), (1, -1), (2, -1), (4, 1))
        table = climbing(6, ladder)
        self.assertEqual(len(table[1]), 364)
        self.same(ladder_of(table), ladder)
        self.same(ladder_of(climbing(6, ladder[:4])), ladder[:4])


class RoundOrLadder(RoundCase):

    def test_just_one_of_the_two(self):
        tables = every_table(1) + every_table(2) + [table for table in small_lots(3, 2) if not (0, 0, 0) in table[1]]
        tables += some_tables(3, 100, 26) + some_tables(4, 40, 20) + some_tables(5, 20, 12) + some_tables(6, 20, 12)
        for table in tables:
            self.check(table)

    def test_rows_around_one_ladder(self):
        ladder = tuple((member, 1 - member % 2 * 2) for member in (4, 0, 5, 2, 1, 3))
        rows = climbing(6, ladder)[1]
        self.check((6, rows))
        for row in every_row(6)[::9]:
            more = (6, tuple(sorted(set(rows + (row,)))))
            if any(row):
                self.check(more)
                self.assertIs(goes_round(more), row not in rows)

    def test_what_is_asked(self):
        for call in (goes_round, round_of, round_size, ladder_of):
            tables_refused_first(self, call)

    def test_equal_calls_behind_refused_ones(self):
        for _ in range(2):
            self.refused("BadTable", 0, round_of, (2, ((0, 0),)))
            self.check(PAIR)
            self.check(U)

    def test_large_tables_are_told_quickly(self):
        begun = time.perf_counter()
        for n in range(1, 7):
            self.check(all_but_level(n))
            self.check((n, ()))
        for ladder in full_ladders(6)[::4000]:
            self.check(climbing(6, ladder))
        for table in some_tables(6, 30, 700):
            self.check(table)
        for table in some_tables(4, 40, 80):
            self.assertIs(round_size(table) is None, round_of(table) is None)
        self.assertLess(time.perf_counter() - begun, 30)


if __name__ == "__main__":
    unittest.main()
