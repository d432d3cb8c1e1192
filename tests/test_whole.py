"""What holds of the whole program [0.3], and of all that it returns [0.1]."""

import random
import unittest

from common import (Case, climbing, every_lot, every_row, every_table, exact, full_ladders, level_of, needing_all,
                    order_of, some_lots, some_tables)
from councils import council_by_chance
from roundorlist.bridges import bridge, bridge_of
from roundorlist.kept import Kept
from roundorlist.kernel import bars_right, climbed_right, round_right, way_right
from roundorlist.leading import lead_way
from roundorlist.minutes import minutes_text, opened
from roundorlist.rounds import ladder_of, round_of
from roundorlist.ruletexts import print_council, read_council, table_of, true_at
from roundorlist.session import Session
from roundorlist.sittings import Sitting
from roundorlist.texts import (made_names, print_ladder, print_lot, print_motion, print_row, read_ladder, read_lot,
                               read_motion, read_row)
from roundorlist.walking import can_lead, walk

PLAIN = (int, str, bool, type(None))


def is_plain(value):
    """Whether a value is of plain ints, texts, bools, None and tuples of these, of no class of their own."""
    if type(value) is tuple:
        return all(is_plain(part) for part in value)
    return type(value) in PLAIN


class WhatHolds(Case):

    def tables(self):
        yield from every_table(1) + every_table(2)
        for n in (3, 4, 5, 6):
            yield from some_tables(n, 40, 14)
            yield needing_all(n)
            yield climbing(n, full_ladders(n)[-5])
        # The largest tables that do not go round, and one row more.
        for n in (2, 3, 4):
            table = climbing(n, full_ladders(n)[3])
            for row in every_row(n):
                if row not in table[1] and any(row):
                    yield (n, tuple(sorted(table[1] + (row,))))

    def test_a_round_or_a_ladder_and_never_both(self):
        for table in self.tables():
            way, ladder = round_of(table), ladder_of(table)
            self.assertNotEqual(way is None, ladder is None)
            if way is None:
                self.same(climbed_right(table, ladder), True)
            else:
                self.same(round_right(table, way), True)
                self.assertLessEqual(len(way) - 1, table[0] + 1)

    def test_a_way_or_a_ladder_that_bars(self):
        for lot in every_lot(1) + every_lot(2)[::7] + some_lots(3, 40, 9) + some_lots(4, 10, 9):
            n = lot[0]
            for row in every_row(n):
                word, ladder = walk(lot, row)
                self.assertEqual(word == "led", can_lead(lot, row))
                if word == "barred":
                    self.same(bars_right(lot, ladder, row), True)
                else:
                    way = lead_way(lot, row)
                    self.same(way_right(lot, row, way), True)
                    self.assertLessEqual(len(way) - 1, n if any(row) else n + 1)

    def test_sittings_never_come_back_by_puts_of_what_stood_before(self):
        chance = random.Random(9)
        for table in self.tables():
            n = table[0]
            sitting, stood = Sitting(table, level_of(n)), [level_of(n)]
            if round_of(table) is None:
                for _ in range(30):
                    sitting.put(tuple(chance.randrange(-1, 2) for _ in range(n)))
                    if sitting.standing() != stood[-1]:
                        self.assertNotIn(sitting.standing(), stood)
                        stood.append(sitting.standing())

    def test_what_is_told_is_read_as_it_was(self):
        chance = random.Random(10)
        for table in self.tables():
            n = table[0]
            names = tuple(f"m{member}" for member in range(n))
            self.same(read_lot(n, print_lot(table)), table)
            motion = tuple(chance.randrange(-10 ** 399, 10 ** 399) for _ in range(n))
            self.same(read_motion(n, print_motion(n, motion)), motion)
            row = chance.choice(every_row(n))
            self.same(read_row(n, print_row(n, row)), row)
            ladder = walk(table, row)[1]
            self.same(read_ladder(names, print_ladder(names, ladder)), ladder)
            sitting = Sitting(table, motion)
            for _ in range(3):
                sitting.put(tuple(height + chance.randrange(-1, 2) for height in sitting.standing()))
            again = opened(table, minutes_text(sitting))
            self.same((again.first(), again.minutes()), (motion, sitting.minutes()))

    def test_councils_are_read_as_they_were(self):
        chance = random.Random(11)
        for at in range(60):
            council = read_council(council_by_chance(chance, 1 + at % 6, at % 4, 2))
            self.same(read_council(print_council(council)), council)

    def test_a_council_from_its_text_to_a_sitting(self):
        chance = random.Random(12)
        for at in range(40):
            text = council_by_chance(chance, 1 + at % 4, at % 3, 2)
            council = read_council(text)
            table = table_of(council)
            n = table[0]
            kept = Kept(n)
            for row in every_row(n):
                if any(row) and true_at(council, row):
                    kept.add(row)
            self.same(kept.table(), table)
            session = Session(text, level_of(n))
            self.same(session.row("round"), "never" if kept.calm() else "goes round")
            self.same(session.row("table"), print_lot(table))
            for motion in every_row(n):
                row = order_of(motion, session.sitting.standing())
                self.same(session.row("put " + print_motion(n, motion)), "wins" if row in table[1] else "loses")


class WhatIsReturned(Case):

    def values(self):
        council = read_council("members a, b, c; chamber d: over > 1; wins if a over and not d under")
        table = table_of(council)
        yield from (council, table, print_council(council), true_at(council, (1, 1, 0)), made_names(("a",)))
        yield from (read_lot(2, "++ 0+"), read_row(2, "+-"), read_motion(2, "1 -4"), read_ladder(("a", "b"), "b up"))
        yield from (bridge(table, (0, 0, 0), (1, 0, 0)), bridge_of(1, ((1,), (0,)), (0,), (3,)))
        kept = Kept(2)
        for row in ((0, 1), (0, -1)):
            yield from (kept.add(row), kept.table(), kept.calm(), kept.can((0, 1)), kept.paper(), kept.paper())
        yield from (kept.strike((0, 1)), kept.undo(), kept.redo())
        sitting = Sitting(table, (0, 0, 0))
        yield from (sitting.put((1, 0, 0)), sitting.put((-1, 0, 0)), sitting.back(), sitting.again())
        yield from (sitting.plan((5, 1, 1)), sitting.step(), sitting.standing(), sitting.first(), sitting.minutes())
        yield from (sitting.scale(), minutes_text(sitting))
        session = Session("members a; wins if a over", (0,))
        yield from (session.council, session.table, session.row("heads"), session.row(None))

    def test_plain_values(self):
        for value in self.values():
            self.assertTrue(is_plain(value), value)

    def test_equal_calls_return_the_same(self):
        self.assertEqual([exact(value) for value in self.values()], [exact(value) for value in self.values()])

    def test_what_returns_nothing(self):
        kept, sitting = Kept(1), Sitting((1, ((1,),)), (0,))
        sitting.put((1,))
        for got in (kept.add((1,)), kept.strike((1,)), kept.undo(), kept.redo(), sitting.back(), sitting.again()):
            self.assertIsNone(got)


if __name__ == "__main__":
    unittest.main()
