"""Kept tables [50], what they tell [51], and the tallies by which they do."""

import random
import time
import unittest

from common import (Case, NO_MANY, all_but_level, climbing, every_ladder, every_lot, every_row, full_ladders,
                    level_of, needing_all, rows_refused, some_lots)
from roundorlist import errors
from roundorlist.kept import Kept
from roundorlist.kernel import climbed_right, round_right
from roundorlist.rounds import goes_round
from roundorlist.tallies import Tally, tally_of
from roundorlist.walking import can_lead, walk


class Plain:
    """A kept table as a set of rows, word for word as [50] tells."""

    def __init__(self):
        self.rows, self.done, self.undone = set(), [], []

    def change(self, row):
        self.rows ^= {row}

    def granted(self, row):
        self.change(row)
        self.done = (self.done + [row])[-100:]
        self.undone = []

    def undo(self):
        row = self.done.pop()
        self.change(row)
        self.undone.append(row)

    def redo(self):
        row = self.undone.pop()
        self.change(row)
        self.done.append(row)


class Both:
    """A kept table and a plain one, to which the same is done; asked are all rows of a few members."""

    def __init__(self, case, n, asked=None):
        self.case, self.n = case, n
        self.kept, self.plain = Kept(n), Plain()
        self.asked = every_row(n) if asked is None else asked
        self.check()

    def check(self):
        table = (self.n, tuple(sorted(self.plain.rows)))
        self.case.same(self.kept.table(), table)
        calm = not goes_round(table)
        for _ in range(2):
            self.case.same(self.kept.calm(), calm)
            word, paper = self.kept.paper()
            self.case.assertEqual(word, "ladder" if calm else "round")
            self.case.same((climbed_right if calm else round_right)(table, paper), True)
            self.case.same(self.kept.paper(), (word, paper))
        for row in self.asked:
            self.case.same(self.kept.can(row), can_lead(table, row))

    def refused(self, name, what, call, *args):
        self.case.refused(name, what, call, *args)
        self.check()

    def add(self, row):
        if not any(row):
            return self.refused("Level", 0, self.kept.add, row)
        if row in self.plain.rows:
            return self.refused("HasRow", 0, self.kept.add, row)
        self.case.same(self.kept.add(row), None)
        self.plain.granted(row)
        return self.check()

    def strike(self, row):
        if row not in self.plain.rows:
            return self.refused("NoRow", 0, self.kept.strike, row)
        self.case.same(self.kept.strike(row), None)
        self.plain.granted(row)
        return self.check()

    def undo(self):
        if not self.plain.done:
            return self.refused("NothingBack", 0, self.kept.undo)
        self.case.same(self.kept.undo(), None)
        self.plain.undo()
        return self.check()

    def redo(self):
        if not self.plain.undone:
            return self.refused("NothingAgain", 0, self.kept.redo)
        self.case.same(self.kept.redo(), None)
        self.plain.redo()
        return self.check()


class KeptTables(Case):

    def test_examples(self):
        kept = Kept(1)
        kept.add((1,))
        self.same(kept.calm(), True)
        self.same(kept.paper(), ("ladder", ((0, 1),)))
        kept.add((-1,))
        self.same(kept.calm(), False)
        self.same(kept.paper()[0], "round")
        kept.undo()
        self.same(kept.table(), (1, ((1,),)))
        self.refused("NoRow", 0, kept.strike, (-1,))
        kept.redo()
        self.same(kept.table(), (1, ((-1,), (1,))))
        kept.strike((1,))
        self.same(kept.table(), (1, ((-1,),)))
        self.refused("NothingAgain", 0, kept.redo)
        for _ in range(3):
            kept.undo()
        self.same(kept.table(), (1, ()))
        self.refused("NothingBack", 0, kept.undo)

    def test_names_of_the_arguments(self):
        kept = Kept(n=2)
        kept.add(row=(0, 1))
        self.same(kept.can(row=(0, 1)), True)
        kept.strike(row=(0, 1))
        self.same(kept.table(), (2, ()))

    def test_at_the_beginning(self):
        for n in range(1, 7):
            both = Both(self, n, (level_of(n), (1,) * n))
            both.undo()
            both.redo()
            self.same(both.kept.table(), (n, ()))
            self.same(both.kept.paper(), ("ladder", ()))

    def test_all_tables_row_by_row(self):
        for n, many in ((1, 20), (2, 60), (3, 25)):
            chance = random.Random(50 + n)
            for _ in range(many):
                both = Both(self, n)
                for _ in range(12):
                    deed = chance.choice(("add", "add", "add", "strike", "strike", "undo", "undo", "redo"))
                    row = chance.choice(every_row(n))
                    if deed == "strike" and both.plain.rows and chance.randrange(4):
                        row = chance.choice(sorted(both.plain.rows))
                    getattr(both, deed)(*((row,) if deed in ("add", "strike") else ()))

    def test_larger_tables_row_by_row(self):
        for n in (4, 5, 6):
            chance = random.Random(n)
            rows = [row for row in every_row(n) if any(row)]
            both = Both(self, n, chance.sample(every_row(n), 9) + [level_of(n)])
            for at in range(40):
                getattr(both, ("add", "add", "strike", "add", "undo", "redo", "undo")[at % 7])(
                    *((chance.choice(rows if at % 7 != 2 else sorted(both.plain.rows)),) if at % 7 < 4 else ()))

    def test_undo_and_redo_in_runs(self):
        both = Both(self, 2)
        for row in every_row(2):
            both.add(row)
        for many in (1, 4, 8):
            for _ in range(many):
                both.undo()
            for _ in range(many):
                both.redo()
            both.redo()
        for _ in range(9):
            both.undo()
        for _ in range(9):
            both.redo()
        both.undo()
        both.add((1, 1))
        both.redo()
        both.undo()
        both.redo()
        both.redo()

    def test_a_grant_empties_what_can_be_redone(self):
        for last, row in (("add", (1, 1)), ("strike", (0, 1)), ("add", (1, 0))):
            both = Both(self, 2)
            both.add((0, 1))
            both.add((1, 0))
            both.undo()
            getattr(both, last)(row)
            both.refused("NothingAgain", 0, both.kept.redo)

    def test_refused_ones_do_not(self):
        both = Both(self, 2)
        both.add((0, 1))
        both.add((1, 0))
        both.undo()
        both.refused("Level", 0, both.kept.add, (0, 0))
        both.refused("HasRow", 0, both.kept.add, (0, 1))
        both.refused("NoRow", 0, both.kept.strike, (1, 0))
        both.refused("NoRow", 0, both.kept.strike, (0, 0))
        both.refused("BadRow", -1, both.kept.add, (0,))
        both.refused("BadRow", 1, both.kept.strike, (0, True))
        both.redo()
        self.same(both.kept.table(), (2, ((0, 1), (1, 0))))
        both.refused("HasRow", 0, both.kept.add, (1, 0))
        both.undo()
        both.undo()
        both.undo()

    def test_a_strike_can_be_undone_and_redone(self):
        both = Both(self, 2)
        both.add((0, 1))
        both.strike((0, 1))
        both.add((0, 1))
        for deed in ("undo", "undo", "redo", "undo", "undo", "undo", "redo", "redo", "redo", "redo"):
            getattr(both, deed)()

    def test_a_hundred_and_more_can_be_undone(self):
        for many in (99, 100, 101, 150):
            both = Both(self, 1, ())
            for at in range(many):
                (both.strike if at % 2 else both.add)((1,))
            for _ in range(min(many, 100)):
                both.undo()
            both.refused("NothingBack", 0, both.kept.undo)
            self.same(both.kept.table(), (1, ((1,),) if many == 101 else ()))
            for _ in range(min(many, 100)):
                both.redo()
            both.refused("NothingAgain", 0, both.kept.redo)
            both.add((-1,))
            for _ in range(min(many + 1, 100)):
                both.undo()
            both.refused("NothingBack", 0, both.kept.undo)

    def test_what_was_undone_leaves_room_again(self):
        both = Both(self, 1, ())
        for at in range(100):
            (both.strike if at % 2 else both.add)((1,))
        for _ in range(5):
            both.undo()
        for at in range(5):
            (both.add if at % 2 else both.strike)((1,))
        for _ in range(100):
            both.undo()
        both.refused("NothingBack", 0, both.kept.undo)
        self.same(both.kept.table(), (1, ()))

    def test_two_have_nothing_in_common(self):
        one, two = Both(self, 2), Both(self, 2)
        one.add((0, 1))
        two.check()
        two.add((0, -1))
        one.add((0, -1))
        two.undo()
        one.check()
        two.check()

    def test_tables_told_ahead_stay_as_they_were(self):
        kept = Kept(2)
        kept.add((0, 1))
        ahead = kept.table()
        kept.add((0, -1))
        self.same(ahead, (2, ((0, 1),)))

    def test_what_is_asked_in_order(self):
        for n in NO_MANY:
            self.refused("BadMany", n, Kept, n)
        for n in range(1, 7):
            kept = Kept(n)
            for call in (kept.add, kept.strike, kept.can):
                rows_refused(self, call, n, ())
            self.refused("Level", 0, kept.add, level_of(n))
            self.refused("NoRow", 0, kept.strike, level_of(n))
            self.same(kept.table(), (n, ()))

    def test_one_row_more_and_one_row_less(self):
        chance = random.Random(51)
        for n in (2, 3):
            kept = Kept(n)
            rows = [row for row in every_row(n) if any(row)]
            chance.shuffle(rows)
            calm, can = True, set()
            for row in rows:
                kept.add(row)
                self.assertLessEqual(kept.calm(), calm)
                now = {other for other in every_row(n) if kept.can(other)}
                self.assertLessEqual(can, now)
                self.assertIs(level_of(n) in now, not kept.calm())
                calm, can = kept.calm(), now
            chance.shuffle(rows)
            for row in rows:
                kept.strike(row)
                now = {other for other in every_row(n) if kept.can(other)}
                self.assertLessEqual(now, can)
                self.assertGreaterEqual(kept.calm(), calm)
                calm, can = kept.calm(), now
            self.same((kept.calm(), can), (True, set()))


class Quick(Case):

    def test_a_kept_of_all_rows_is_asked_much(self):
        begun = time.perf_counter()
        kept = Kept(6)
        rows = every_row(6)
        for row in rows[::-1]:
            if any(row):
                kept.add(row)
        self.same(kept.table(), all_but_level(6))
        for row in rows[::40]:
            kept.strike(row)
            for _ in range(2):
                for other in rows:
                    self.assertIs(kept.can(other), True)
                for _ in range(50):
                    self.assertEqual((kept.calm(), len(kept.table()[1])), (False, len(kept.table()[1])))
                    self.assertEqual(kept.paper()[0], "round")
            kept.undo()
        self.assertLess(time.perf_counter() - begun, 30)

    def test_a_kept_of_many_rows_that_is_calm(self):
        begun = time.perf_counter()
        table = climbing(6, full_ladders(6)[777])
        kept = Kept(6)
        for row in table[1]:
            kept.add(row)
        for row in table[1][::20]:
            kept.strike(row)
            kept.undo()
            for other in every_row(6):
                self.assertIs(kept.can(other), other in table[1])
            for _ in range(50):
                self.same(kept.calm(), True)
                self.assertEqual(kept.paper()[0], "ladder")
        self.same(climbed_right(table, kept.paper()[1]), True)
        self.assertLess(time.perf_counter() - begun, 30)


class Tallies(Case):

    def test_the_walk_of_a_tally(self):
        lots = every_lot(1) + every_lot(2)[::3] + some_lots(3, 40, 20) + some_lots(4, 10, 60) + [needing_all(6)]
        for lot in lots + [(5, ()), all_but_level(4)]:
            tally = tally_of(*lot)
            for row in every_row(lot[0]):
                self.same(tally.walk(row), walk(lot, row))
                self.same(tally.can_lead(row), can_lead(lot, row))

    def test_rows_come_and_go(self):
        for table in [climbing(3, ladder) for ladder in every_ladder(3)[::9]]:
            tally = Tally(3)
            for row in every_row(3):
                tally.change(row, 1)
            for row in every_row(3):
                if row not in table[1]:
                    tally.change(row, -1)
            for row in every_row(3):
                self.same(tally.walk(row), walk(table, row))

    def test_no_error_leaves_a_trace(self):
        kept = Kept(2)
        for _ in range(50):
            for call, args in ((kept.undo, ()), (kept.redo, ()), (kept.add, ((0, 0),)), (kept.strike, ((0, 1),))):
                self.assertRaises(errors.Refused, call, *args)
                self.same((kept.table(), kept.paper()), ((2, ()), ("ladder", ())))


if __name__ == "__main__":
    unittest.main()
