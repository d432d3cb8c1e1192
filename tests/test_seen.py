"""Seen votes [32], what is sure [33], councils that decide [34], the next vote [35]."""

import random
import time
import unittest
from itertools import product

from common import (Case, DEEP, DEEP_PAIRS, LONG, LONG_ROWS, NO_MANY, NO_SIGNS, NO_TUPLES, all_but_level, climbing,
                    every_ladder, every_row, every_table, full_ladders, is_climbed, level_of, needing_all, rows_refused)
from roundorlist.rounds import goes_round
from roundorlist.seen import could, decided, decided_many, made_seen, next_ask, verdict

S = (2, ((1, 1),), ((1, -1),))
EMPTY = (2, (), ())

# What is no rising tuple of rows of two members without the level row.
NO_ROWS = NO_TUPLES + (
    (0, 1), (None,), ((),), ((0,),), ((0, 1, 0),), ((0, 0),), ((0, 1), (0, 0)), ((0, 1), (0, 1)), ((1, 0), (0, 1)),
    ((-1, 0), (0, 0), (0, 1)), ((0, 1), None), ((0, 1), "10"), (((0, 1),),), (DEEP, DEEP), DEEP, DEEP_PAIRS, LONG,
    LONG_ROWS,
) + tuple(((0, wrong),) for wrong in NO_SIGNS) + tuple(((0, 1), (wrong, 0)) for wrong in NO_SIGNS)

# Things that are no seen votes, and what is told of each.
NO_SEEN = tuple((thing, "BadSeen", -1) for thing in NO_TUPLES) + (
    ((), "BadSeen", -1),
    ((2,), "BadSeen", -1),
    ((2, ()), "BadSeen", -1),
    ((0, ()), "BadSeen", -1),
    ((2, (), (), ()), "BadSeen", -1),
    (DEEP, "BadSeen", -1),
    (DEEP_PAIRS, "BadSeen", -1),
    (LONG, "BadSeen", -1),
    (LONG_ROWS, "BadSeen", -1),
    ((3, (), ((0, 1),)), "BadSeen", 1),
    ((1, ((0, 1),), ()), "BadSeen", 0),
    ((6, (level_of(6),), None), "BadSeen", 0),
    ((6, all_but_level(6)[1], (level_of(6),)), "BadSeen", 1),
) + tuple(((n, won, None), "BadMany", n) for n in NO_MANY for won in ((), None)) + tuple(
    ((2, wrong, lost), "BadSeen", 0) for wrong in NO_ROWS for lost in ((), ((0, 1),), None)
) + tuple(((2, won, wrong), "BadSeen", 1) for wrong in NO_ROWS for won in ((), ((0, 1),)))


def seen_refused_first(case, call, *more):
    """The call asks (seen) of its first argument ahead of the others."""
    for thing, name, what in NO_SEEN:
        case.refused(name, what, call, thing, *more)


def rows_but_level(n):
    return all_but_level(n)[1]


def every_seen_of_one():
    return [(1, one[1], two[1]) for one in every_table(1) for two in every_table(1)]


def some_seen(n, many, most):
    """So many seen votes, the same ones in each run, of at most so many rows won and lost."""
    chance = random.Random(77 * n + many)
    rows = rows_but_level(n)
    return [(n, tuple(sorted(chance.sample(rows, chance.randrange(most + 1)))),
             tuple(sorted(chance.sample(rows, chance.randrange(most + 1))))) for _ in range(many)]


def seen_of_ladder(ladder, n, many, salt=0):
    """Seen votes of the decided table of a ladder: so many rows, each won or lost."""
    chance = random.Random(many + salt)
    wins = climbing(n, ladder)[1]
    rows = chance.sample(rows_but_level(n), many)
    return (n, tuple(sorted(row for row in rows if row in wins)),
            tuple(sorted(row for row in rows if row not in wins)))


def fits(table, seen):
    return set(seen[1]) <= set(table[1]) and not set(seen[2]) & set(table[1])


CALM = {n: [table for table in every_table(n) if any(is_climbed(table, ladder) for ladder in every_ladder(n))]
        for n in (1, 2)}
DECIDED = {n: [climbing(n, ladder) for ladder in full_ladders(n)] for n in (1, 2, 3)}


class MadeSeen(Case):

    def test_seen_votes_are_returned(self):
        for seen in every_seen_of_one() + some_seen(2, 60, 8) + some_seen(6, 10, 700):
            self.same(made_seen(seen), seen)
        self.same(made_seen(thing=S), S)

    def test_edges(self):
        for n in range(1, 7):
            for seen in ((n, (), ()), (n, rows_but_level(n), rows_but_level(n)), (n, (), rows_but_level(n))):
                self.same(made_seen(seen), seen)
            self.refused("BadSeen", 0, made_seen, (n, every_row(n), every_row(n)))
            self.refused("BadSeen", 1, made_seen, (n, (), every_row(n)))

    def test_what_is_none(self):
        seen_refused_first(self, made_seen)

    def test_equal_calls_behind_refused_ones(self):
        for _ in range(2):
            self.refused("BadSeen", 1, made_seen, (2, (), ((0, 0),)))
            self.same(made_seen(S), S)


class Sure(Case):

    def check(self, seen):
        """could and verdict beside all calm tables."""
        n = seen[0]
        calm = [set(table[1]) for table in CALM[n] if fits(table, seen)]
        self.assertIs(could(seen), calm != [])
        for row in every_row(n):
            if not calm:
                self.refused("NoCouncil", 0, verdict, seen, row)
                continue
            wanted = "open" if any(row in table for table in calm) else "never"
            if all(row in table for table in calm):
                wanted = "won"
                self.assertIn(row, seen[1])
            self.same(verdict(seen, row), wanted if any(row) else "level")

    def test_examples(self):
        told = {row: verdict(S, row) for row in every_row(2)}
        self.assertEqual([row for row in told if told[row] == "never"], [(-1, -1), (1, -1)])
        self.assertEqual((told[-1, 1], told[0, -1], told[1, 1], told[0, 0]), ("open", "open", "won", "level"))
        self.same(verdict(row=(1, 1), seen=S), "won")
        self.assertIs(could(seen=S), True)
        self.assertIs(could((1, (), ((-1,), (1,)))), True)

    def test_beside_all_calm_tables(self):
        for seen in every_seen_of_one() + some_seen(2, 400, 4) + some_seen(2, 40, 8):
            self.check(seen)

    def test_a_row_won_and_lost(self):
        for n in range(1, 7):
            row = (1,) + (0,) * (n - 1)
            self.assertIs(could((n, (row,), (row,))), False)
            self.refused("NoCouncil", 0, verdict, (n, (row,), (row,)), level_of(n))
            self.refused("NoCouncil", 0, verdict, (n, (row,), (row,)), row)

    def test_rows_won_that_go_round(self):
        for n in range(1, 7):
            table = needing_all(n)
            self.assertIs(could((n, table[1], ())), False)
            self.refused("NoCouncil", 0, verdict, (n, table[1], ()), table[1][0])
            for at in range(n + 1):
                won = table[1][:at] + table[1][at + 1:]
                self.assertIs(could((n, won, ())), True)
                self.same(verdict((n, won, ()), table[1][at]), "never")
                self.same(verdict((n, won, (table[1][at],)), table[1][at]), "never")

    def test_nothing_seen(self):
        for n in range(1, 7):
            self.assertIs(could((n, (), ())), True)
            self.assertIs(could((n, (), rows_but_level(n))), True)
            for row in rows_but_level(n)[::5]:
                self.same(verdict((n, (), ()), row), "open")
                self.same(verdict((n, (), rows_but_level(n)), row), "never")
            self.same(verdict((n, (), ()), level_of(n)), "level")

    def test_larger_ones(self):
        for seen in some_seen(3, 40, 5) + some_seen(4, 20, 6) + some_seen(6, 20, 9):
            n, won, lost = seen
            self.assertIs(could(seen), not set(won) & set(lost) and not goes_round((n, won)))
            for row in rows_but_level(n)[::7]:
                if could(seen):
                    more = (n, tuple(sorted(set(won + (row,)))), lost)
                    self.same(verdict(seen, row), "won" if row in won else "open" if could(more) else "never")
                else:
                    self.refused("NoCouncil", 0, verdict, seen, row)

    def test_six_members(self):
        ladder = ((5, -1), (3, 1), (0, 1), (1, -1), (2, -1), (4, 1))
        won = climbing(6, ladder)[1]
        lost = tuple(row for row in rows_but_level(6) if row not in won)
        for seen in ((6, won, ()), (6, won, lost)):
            self.assertIs(could(seen), True)
            for row in every_row(6)[::11]:
                self.same(verdict(seen, row), "level" if not any(row) else "won" if row in won else "never")
        self.assertIs(could(all_but_level(6) + (lost,)), False)

    def test_what_is_asked_in_order(self):
        seen_refused_first(self, could)
        seen_refused_first(self, verdict, (0, 0))
        seen_refused_first(self, verdict, None)
        rows_refused(self, verdict, 2, (S,))
        rows_refused(self, verdict, 2, ((2, ((0, 1),), ((0, 1),)),))
        rows_refused(self, verdict, 6, ((6, (), ()),))


class Decided(Case):

    def check(self, seen):
        """decided_many and decided beside a plain listing of all full ladders."""
        n = seen[0]
        tables = DECIDED[n] if n in DECIDED else [climbing(n, ladder) for ladder in full_ladders(n)]
        fit = [table[1] for table in tables if fits(table, seen)]
        self.same(decided_many(seen), len(fit))
        for row in every_row(n):
            if not fit:
                self.refused("NoCouncil", 0, decided, seen, row)
                continue
            wins = sum(row in rows for rows in fit)
            wanted = {0: "loses", len(fit): "wins"}.get(wins, "open")
            self.same(decided(seen, row), wanted if any(row) else "level")

    def test_examples(self):
        told = {row: decided(S, row) for row in every_row(2)}
        self.assertEqual(told[-1, 1], "wins")
        self.assertEqual([row for row in told if told[row] == "open"], [(-1, 0), (1, 0)])
        self.same(decided_many(S), 2)
        self.same(decided_many((1, (), ((-1,), (1,)))), 0)
        self.same(decided_many(seen=(3, (), ())), 48)
        self.same(decided(row=(-1, 1), seen=S), "wins")
        self.refused("NoCouncil", 0, decided, (1, (), ((-1,), (1,))), (0,))

    def test_beside_all_full_ladders(self):
        for seen in every_seen_of_one() + some_seen(2, 150, 3) + some_seen(3, 60, 3):
            self.check(seen)
        for at, ladder in enumerate(full_ladders(3)[::5]):
            self.check(seen_of_ladder(ladder, 3, at))
        for at, ladder in enumerate(full_ladders(4)[::90]):
            self.check(seen_of_ladder(ladder, 4, at))

    def test_calm_but_none_decided(self):
        for seen in ((1, (), ((-1,), (1,))), (2, (), ((-1, 0), (1, 0))), (3, ((1, 0, 0),), ((0, -1, 1), (0, 1, -1)))):
            self.assertIs(could(seen), True)
            self.same(decided_many(seen), 0)
            self.refused("NoCouncil", 0, decided, seen, level_of(seen[0]))
            self.refused("NoCouncil", 0, next_ask, seen)

    def test_none_calm_none_decided(self):
        for seen in ((2, ((0, 1),), ((0, 1),)), (2, ((-1, 1), (1, -1)), ()), all_but_level(6) + ((),)):
            self.assertIs(could(seen), False)
            self.same(decided_many(seen), 0)

    def test_nothing_seen(self):
        self.same([decided_many((n, (), ())) for n in range(1, 7)], [2, 8, 48, 384, 3840, 46080])
        for n in range(1, 7):
            self.same(decided((n, (), ()), level_of(n)), "level")
            for row in rows_but_level(n)[::5]:
                self.same(decided((n, (), ()), row), "open")

    def test_six_members(self):
        ladder = ((5, -1), (3, 1), (0, 1), (1, -1), (2, -1), (4, 1))
        won = climbing(6, ladder)[1]
        lost = tuple(row for row in rows_but_level(6) if row not in won)
        for seen in ((6, won, ()), (6, (), lost), (6, won, lost)):
            self.same(decided_many(seen), 1)
            for row in every_row(6)[::11]:
                self.same(decided(seen, row), "level" if not any(row) else "wins" if row in won else "loses")
        self.same(decided_many((6, won, won)), 0)
        self.same(decided_many((6, rows_but_level(6), rows_but_level(6))), 0)

    def test_what_is_asked_in_order(self):
        seen_refused_first(self, decided_many)
        seen_refused_first(self, decided, (0, 0))
        seen_refused_first(self, decided, None)
        rows_refused(self, decided, 2, (S,))
        rows_refused(self, decided, 2, ((2, ((0, 1),), ((0, 1),)),))
        rows_refused(self, decided, 6, ((6, (), ()),))


class NextAsk(Case):

    def check(self, seen):
        """next_ask beside a plain listing of all full ladders."""
        n = seen[0]
        tables = DECIDED[n] if n in DECIDED else [climbing(n, ladder) for ladder in full_ladders(n)]
        fit = [set(table[1]) for table in tables if fits(table, seen)]
        if not fit:
            self.refused("NoCouncil", 0, next_ask, seen)
            return
        lesser = {row: min(sum(row in rows for rows in fit), sum(row not in rows for rows in fit))
                  for row in rows_but_level(n)}
        rows = [row for row in rows_but_level(n) if lesser[row] == max(lesser.values()) and lesser[row] > 0]
        self.same(next_ask(seen), rows[0] if len(fit) > 1 else None)

    def test_examples(self):
        self.same(next_ask(S), (-1, 0))
        self.same(next_ask(seen=EMPTY), (-1, -1))
        self.same(decided_many((2, ((-1, -1),), ())), 4)
        self.same(decided_many((2, (), ((-1, -1),))), 4)

    def test_beside_all_full_ladders(self):
        for seen in every_seen_of_one() + some_seen(2, 150, 3) + some_seen(3, 40, 3):
            self.check(seen)
        for at, ladder in enumerate(full_ladders(3)[::3]):
            self.check(seen_of_ladder(ladder, 3, at))
        for at, ladder in enumerate(full_ladders(4)[::30]):
            self.check(seen_of_ladder(ladder, 4, at))

    def test_beside_decided_many(self):
        for ladder in full_ladders(3)[::7]:
            seen = seen_of_ladder(ladder, 3, 3, 5)
            best, best_row = 0, None
            for row in rows_but_level(3):
                if decided(seen, row) == "open":
                    won = decided_many((3, tuple(sorted(seen[1] + (row,))), seen[2]))
                    lost = decided_many((3, seen[1], tuple(sorted(seen[2] + (row,)))))
                    self.assertEqual(won + lost, decided_many(seen))
                    if min(won, lost) > best:
                        best, best_row = min(won, lost), row
            self.same(next_ask(seen), best_row)

    def test_none_is_left_to_ask(self):
        for n in range(1, 5):
            for ladder in full_ladders(n)[::11]:
                self.same(next_ask(climbing(n, ladder) + ((),)), None)

    def test_asked_until_one_is_left(self):
        for ladder in full_ladders(4)[::37]:
            seen, asked = (4, (), ()), 0
            while next_ask(seen) is not None:
                row = next_ask(seen)
                self.assertEqual(decided(seen, row), "open")
                at = 1 if row in climbing(4, ladder)[1] else 2
                seen = seen[:at] + (tuple(sorted(seen[at] + (row,))),) + seen[at + 1:]
                asked += 1
            self.assertEqual(decided_many(seen), 1)
            self.assertLess(asked, 16)

    def test_at_five_members_and_more(self):
        for n in (5, 6):
            row = (1,) * n
            for seen in ((n, (), ()), (n, (row,), (row,)), all_but_level(n) + (rows_but_level(n),)):
                self.refused("TooMany", n, next_ask, seen)
        self.check((4, (), ()))

    def test_what_is_asked_in_order(self):
        seen_refused_first(self, next_ask)
        self.refused("BadSeen", 1, next_ask, (5, (), (level_of(5),)))
        self.refused("NoCouncil", 0, next_ask, (4, (level_of(3) + (1,),), (level_of(3) + (1,),)))

    def test_equal_calls_behind_refused_ones(self):
        for _ in range(2):
            self.refused("NoCouncil", 0, next_ask, (1, ((1,),), ((1,),)))
            self.same(next_ask(S), (-1, 0))


class Quick(Case):

    def test_many_votes_are_told_quickly(self):
        begun = time.perf_counter()
        for at, ladder in enumerate(full_ladders(6)[::2000]):
            seen = seen_of_ladder(ladder, 6, 30 * at)
            self.assertIs(could(seen), True)
            self.assertGreaterEqual(decided_many(seen), 1)
            for row in every_row(6)[::40]:
                self.assertIn(decided(seen, row), ("level", "wins", "loses", "open"))
                self.assertIn(verdict(seen, row), ("level", "won", "never", "open"))
        for seen in ((6, rows_but_level(6), rows_but_level(6)), (6, (), rows_but_level(6)), (6, (), ())):
            self.assertIs(could(seen), seen[1] == ())
            self.same(decided_many(seen), 46080 if seen[2] == () else 0)
        for seen in product((4,), (climbing(4, full_ladders(4)[9])[1][:3], ()), ((), ((1, 1, 1, 1),))):
            self.assertIsNotNone(next_ask(seen))
        self.assertLess(time.perf_counter() - begun, 30)


if __name__ == "__main__":
    unittest.main()
