"""Given motions [36], wins in a world [37], where wins end [38], and further motions [39]."""

import random
import time
import unittest

from common import (Case, DEEP, DEEP_PAIRS, LONG, LONG_ROWS, NO_MANY, NO_NUMBERS, NO_TUPLES, ODD, all_but_level,
                    bridge_told, climbing, every_ladder, every_row, every_table, full_ladders, level_of, needing_all, order_of,
                    rows_lead, some_tables, tables_refused_first)
from roundorlist.leading import few, lead_way
from roundorlist.rounds import goes_round, round_of
from roundorlist.walking import can_lead
from roundorlist.worlds import (beats, ends, is_motion, is_world, made_motion, made_world, reach, round_in, shortest)

T = (2, ((0, 1), (1, 0), (1, 1)))
TW = (2, ((0, 0), (1, 0), (0, 1), (0, 0)))
M = (3, ((-1, 1, 1), (1, -1, 1), (1, 1, -1)))
MW = (3, ((0, 1, 2), (1, 2, 0), (2, 0, 1), (3, 3, 3)))
BIG = 10 ** 999

# Things that are no worlds, and what is told of each.
NO_WORLDS = tuple((thing, "BadWorld", -1) for thing in NO_TUPLES) + (
    ((), "BadWorld", -1),
    ((1,), "BadWorld", -1),
    ((1, ((0,),), ()), "BadWorld", -1),
    ((0, (), ()), "BadWorld", -1),
    (DEEP, "BadWorld", -1),
    (LONG, "BadWorld", -1),
    (LONG_ROWS, "BadWorld", -1),
    ((1, ()), "BadWorld", -1),
    ((1, ((0,),) * 41), "BadWorld", -1),
    ((1, (None,) * 41), "BadWorld", -1),
    ((2, LONG), "BadWorld", -1),
    ((2, LONG_ROWS), "BadWorld", -1),
    (DEEP_PAIRS, "BadWorld", 0),
    ((1, DEEP), "BadWorld", 0),
    ((1, (LONG,)), "BadWorld", 0),
    ((1, (0, 1)), "BadWorld", 0),
    ((1, ((0,), None)), "BadWorld", 1),
    ((1, ((0,), "0")), "BadWorld", 1),
    ((1, ((0,), ())), "BadWorld", 1),
    ((1, ((0,), (0, 0))), "BadWorld", 1),
    ((2, ((0, 0), (0,), (0, None))), "BadWorld", 1),
    ((1, ((0,),) * 39 + ((True,),)), "BadWorld", 39),
    ((6, ((0,) * 6, (0,) * 5 + (False,))), "BadWorld", 1),
) + tuple(((n, motions), "BadMany", n) for n in NO_MANY for motions in (((0,),), (), None)) + tuple(
    ((1, thing), "BadWorld", -1) for thing in NO_TUPLES
) + tuple(((2, ((3, 4), (0, wrong))), "BadWorld", 1) for wrong in NO_NUMBERS) + tuple(
    ((2, ((wrong, 0), (3, wrong))), "BadWorld", 0) for wrong in NO_NUMBERS
)


def worlds_refused(case, call, n, table, *more):
    """The call asks (world), and whether it is like the table, of n members, of its second argument."""
    for thing, name, what in NO_WORLDS:
        case.refused(name, what, call, table, thing, *more)
    for other in range(1, 7):
        if other != n:
            case.refused("Unlike", 0, call, table, (other, ((0,) * other,)), *more)


def some_worlds(n, many, most, high):
    """So many worlds, the same ones in each run, of at most so many motions with heights up to high."""
    chance = random.Random(31 * n + many + high)
    return [(n, tuple(tuple(chance.randrange(-high, high + 1) for _ in range(n))
                      for _ in range(1 + at % most))) for at in range(many)]


def wins_told(table, world):
    """All pairs (new, old) of numbers of which new wins over old, told without the package."""
    motions = list(enumerate(world[1]))
    return {(new, old) for new, here in motions for old, there in motions if order_of(here, there) in table[1]}


def come_told(wins, many):
    """For each number the set of all that are come to from it."""
    come = [{start} for start in range(many)]
    for _ in range(many):
        come = [here | {new for new, old in wins if old in here} for here in come]
    return come


class Motions(Case):

    def test_motions_are_returned(self):
        for n in range(1, 7):
            for motion in ((0,) * n, (BIG,) * n, (-BIG,) * n, tuple(range(-2, n - 2))):
                self.same(made_motion(n, motion), motion)
                self.assertIs(is_motion(n, motion), True)
        self.same(made_motion(thing=(7, -3), n=2), (7, -3))
        self.assertIs(is_motion(thing=(7, -3), n=2), True)

    def test_n_is_asked_first(self):
        for n in NO_MANY:
            for thing in ((0,), None, (None,), (), DEEP):
                self.refused("BadMany", n, made_motion, n, thing)
                self.judged(is_motion, n, thing)

    def test_what_is_no_tuple_of_n(self):
        for n in range(1, 7):
            for thing in NO_TUPLES + ((), (0,) * (n - 1), (0,) * (n + 1), (None,) * (n + 1), LONG, LONG_ROWS):
                self.refused("BadMotion", -1, made_motion, n, thing)
                self.judged(is_motion, n, thing)

    def test_what_has_no_number_at_a_place(self):
        for n in range(1, 7):
            for wrong in NO_NUMBERS:
                for place in range(n):
                    motion = (9,) * place + (wrong,) * (n - place)
                    self.refused("BadMotion", place, made_motion, n, motion)
                    self.judged(is_motion, n, motion)
                    self.judged(is_motion, n, motion[:place + 1] + (9,) * (n - place - 1))

    def test_is_motion_of_odd_things(self):
        for thing in ODD:
            numbers = type(thing) is tuple and all(type(part) is int for part in thing)
            for n in (1, 2, 6):
                self.assertIs(is_motion(n, thing), numbers and len(thing) == n)


class Worlds(Case):

    def test_worlds_are_returned(self):
        for world in (TW, MW, (1, ((5,),)), (1, ((5,),) * 40), (6, ((BIG,) * 6, (-BIG,) * 6))) + tuple(
                some_worlds(4, 10, 40, 5)):
            self.same(made_world(world), world)
            self.assertIs(is_world(world), True)
        self.same(made_world(thing=TW), TW)
        self.assertIs(is_world(thing=TW), True)

    def test_what_is_none(self):
        for thing, name, what in NO_WORLDS:
            self.refused(name, what, made_world, thing)
            self.judged(is_world, thing)
        for thing in ODD:
            self.judged(is_world, thing)

    def test_one_and_forty_motions(self):
        for n in range(1, 7):
            for many in (1, 40):
                self.same(made_world((n, ((0,) * n,) * many)), (n, ((0,) * n,) * many))
            for many in (0, 41):
                self.refused("BadWorld", -1, made_world, (n, ((0,) * n,) * many))
                self.judged(is_world, (n, ((0,) * n,) * many))


class WinCase(Case):

    def check(self, table, world):
        """All of [37] and [38] beside beats, and beats beside the rows."""
        many = len(world[1])
        wins = wins_told(table, world)
        for new in range(many):
            for old in range(many):
                self.assertIs(beats(table, world, new, old), (new, old) in wins)
        come = come_told(wins, many)
        for start in range(many):
            self.same(reach(table, world, start), tuple(sorted(come[start])))
            for two in range(many):
                self.check_shortest(table, world, (start, two), wins)
        self.check_ends(table, world, come)
        self.check_round(table, world, wins, come)

    def check_shortest(self, table, world, pair, wins):
        near, many = {pair[0]}, 1
        while pair[1] not in near and many <= len(world[1]):
            near, many = {new for new, old in wins if old in near}, many + 1
        got = shortest(table, world, *pair)
        self.same(shortest(table, world, *pair), got)
        if pair[1] not in near:
            self.same(got, None)
            return
        self.assertEqual((got[0], got[-1], len(got)), pair + (many,))
        self.check_tuple(got, wins)

    def check_tuple(self, numbers, wins):
        self.assertIs(type(numbers), tuple)
        self.assertEqual({type(number) for number in numbers}, {int})
        for old, new in zip(numbers, numbers[1:]):
            self.assertIn((new, old), wins)

    def check_ends(self, table, world, come):
        wanted = {tuple(sorted(here)) for here in come if all(come[other] == here for other in here)}
        got = ends(table, world)
        self.same(got, tuple(sorted(wanted)))
        for here in come:
            self.assertTrue(any(set(end) <= here for end in got))
        self.assertEqual(len({number for end in got for number in end}), sum(len(end) for end in got))

    def check_round(self, table, world, wins, come):
        got = round_in(table, world)
        self.same(round_in(table, world), got)
        if got is None:
            pairs = [(one, two) for one in range(len(come)) for two in range(one)]
            self.assertFalse(any(one in come[two] and two in come[one] for one, two in pairs))
            return
        self.assertGreaterEqual(len(got), 2)
        self.assertEqual(len(set(got)), len(got))
        self.check_tuple(got, wins)
        self.assertIn((got[0], got[-1]), wins)
        self.assertIs(goes_round(table), True)


class Wins(WinCase):

    def test_examples(self):
        self.same(reach(T, TW, 0), (0, 1, 2))
        self.same(shortest(T, TW, 0, 3), None)
        self.same(shortest(T, TW, 0, 0), (0,))
        self.same(ends(T, TW), ((1,), (2,)))
        self.same(round_in(T, TW), None)
        self.same(ends(M, MW), ((0, 1, 2), (3,)))
        self.assertEqual(sorted(round_in(M, MW)), [0, 1, 2])
        self.assertIs(beats(T, TW, 1, 0), True)
        self.assertIs(beats(T, TW, 0, 1), False)
        self.check(T, TW)
        self.check(M, MW)

    def test_names_of_the_arguments(self):
        self.assertIs(beats(old=0, new=1, world=TW, table=T), True)
        self.same(reach(start=0, world=TW, table=T), (0, 1, 2))
        self.same(shortest(two=1, one=0, world=TW, table=T), (0, 1))
        self.same(ends(world=TW, table=T), ((1,), (2,)))
        self.same(round_in(world=TW, table=T), None)

    def test_tables_and_worlds(self):
        for n, table_many in ((1, 0), (2, 40), (3, 40), (4, 20), (6, 10)):
            tables = every_table(1) if n == 1 else some_tables(n, table_many, 3 ** n * 2 // 3)
            for table, world in zip(tables * 5, some_worlds(n, 5 * len(tables), 8, 2)):
                self.check(table, world)

    def test_no_rows_and_all_rows(self):
        for n in range(1, 7):
            world = some_worlds(n, 7, 7, 2)[6]
            many = len(world[1])
            self.check((n, ()), world)
            self.check(all_but_level(n), world)
            self.same(ends((n, ()), world), tuple((number,) for number in range(many)))
            self.same(reach((n, ()), world, many - 1), (many - 1,))
            self.same(round_in((n, ()), world), None)

    def test_equal_motions(self):
        for many in (1, 2, 40):
            world = (2, ((3, 4),) * many)
            self.same(ends(all_but_level(2), world), tuple((number,) for number in range(many)))
            self.same(round_in(all_but_level(2), world), None)
            self.same(reach(all_but_level(2), world, many - 1), (many - 1,))
            self.assertIs(beats(all_but_level(2), world, 0, many - 1), False)
        self.check(M, (3, MW[1] + MW[1]))

    def test_from_a_motion_to_itself(self):
        for table, world in ((T, TW), (M, MW)):
            for number in range(4):
                self.same(shortest(table, world, number, number), (number,))
                self.assertIs(beats(table, world, number, number), False)
                self.assertIn(number, reach(table, world, number))

    def test_heights_below_nought_and_of_many_figures(self):
        world = (2, ((-BIG, BIG), (-BIG, BIG + 1), (1 - BIG, BIG + 1), (-1, -1)))
        self.check(T, world)
        self.same(shortest(T, world, 0, 2), (0, 2))
        self.same(reach(T, world, 3), (3,))
        self.check((2, ((0, 1), (1, -1))), world)

    def test_a_long_line(self):
        world = (1, tuple((height,) for height in range(40)))
        self.same(reach((1, ((1,),)), world, 3), tuple(range(3, 40)))
        self.same(shortest((1, ((1,),)), world, 3, 39), (3, 39))
        self.same(ends((1, ((1,),)), world), ((39,),))
        self.same(ends((1, ((-1,),)), world), ((0,),))
        # Each motion is beaten by the next one alone, and with one more row by those far behind it as well.
        stairs = (2, tuple(((at + 1) // 2, at // 2) for at in range(40)))
        for rows in (((0, 1), (1, 0)), ((-1, -1), (0, 1), (1, 0))):
            self.same(shortest((2, rows), stairs, 0, 39), tuple(range(40)))
            self.same(reach((2, rows), stairs, 0), tuple(range(40)))
        self.same(ends((2, ((0, 1), (1, 0))), stairs), ((39,),))
        self.same(ends((2, ((-1, -1), (0, 1), (1, 0))), stairs), (tuple(range(40)),))
        self.same(shortest((2, ((-1, -1), (0, 1), (1, 0))), stairs, 39, 0), (39, 0))

    def test_a_round_that_is_far_from_the_first_motion(self):
        world = (3, ((9, 9, 9), (-9, -9, -9)) + MW[1][:3])
        self.same(ends(M, world), ((0,), (1,), (2, 3, 4)))
        self.assertEqual(sorted(round_in(M, world)), [2, 3, 4])
        table = (3, tuple(sorted(M[1] + ((1, 1, 1),))))
        self.same(ends(table, world), ((0,),))
        self.assertEqual(sorted(round_in(table, world)), [2, 3, 4])
        self.check(table, world)

    def test_numbers_of_motions(self):
        for call in (beats, shortest):
            for wrong in NO_NUMBERS + (-1, 4, BIG, -BIG):
                self.refused("NoMotion", wrong, call, T, TW, wrong, 0)
                self.refused("NoMotion", wrong, call, T, TW, 3, wrong)
                self.refused("NoMotion", wrong, call, T, TW, wrong, 4)
            self.refused("NoMotion", 4, call, T, TW, 4, True)
        for wrong in NO_NUMBERS + (-1, 4, BIG, -BIG):
            self.refused("NoMotion", wrong, reach, T, TW, wrong)
        self.refused("NoMotion", 1, reach, (1, ()), (1, ((0,),)), 1)
        self.refused("NoMotion", 40, reach, (1, ()), (1, ((0,),) * 40), 40)
        self.same(reach((1, ()), (1, ((0,),) * 40), 39), (39,))
        self.same(reach(T, TW, 3), (1, 2, 3))

    def test_what_is_asked_in_order(self):
        for call, more in ((beats, (0, 0)), (beats, (None, 9)), (reach, (0,)), (reach, (True,)), (shortest, (0, 0)),
                           (shortest, (-1, None)), (ends, ()), (round_in, ())):
            tables_refused_first(self, call, TW, *more)
            tables_refused_first(self, call, None, *more)
            worlds_refused(self, call, 2, T, *more)
            worlds_refused(self, call, 6, (6, ()), *more)

    def test_equal_calls_behind_refused_ones(self):
        for _ in range(2):
            self.refused("NoMotion", 4, beats, T, TW, 0, 4)
            self.refused("Unlike", 0, ends, T, MW)
            self.check(T, TW)


class Rounds(WinCase):

    def test_none_in_every_world_if_the_table_does_not_go_round(self):
        tables = [climbing(2, ladder) for ladder in every_ladder(2)] + [climbing(3, full_ladders(3)[5]), T]
        for table in tables:
            for world in some_worlds(table[0], 20, 12, 2):
                self.same(round_in(table, world), None)

    def test_a_world_of_a_round_of_the_table(self):
        tables = every_table(2) + some_tables(3, 40, 9) + [needing_all(n) for n in range(1, 7)]
        for table in tables:
            way = round_of(table)
            if way is not None:
                world = (table[0], way[1:])
                wins = wins_told(table, world)
                self.assertIsNotNone(round_in(table, world))
                self.check_round(table, world, wins, come_told(wins, len(way) - 1))

    def test_none_in_others(self):
        self.same(round_in(M, (3, MW[1][1:])), None)
        self.same(round_in(M, (3, MW[1][3:])), None)


class FurtherMotions(WinCase):

    def test_what_is_come_to_can_be_led_to(self):
        for n in (1, 2, 3, 4):
            tables = every_table(1) if n == 1 else some_tables(n, 20, 3 ** n // 2)
            for table, world in zip(tables * 2, some_worlds(n, 2 * len(tables), 9, 2)):
                for one in range(len(world[1])):
                    for two in reach(table, world, one):
                        row = order_of(world[1][two], world[1][one])
                        self.assertTrue(two == one or can_lead(table, row))

    def test_fine_heights_change_no_win(self):
        for table, world in zip(some_tables(3, 20, 20), some_worlds(3, 20, 9, 3)):
            fine = (3, tuple(tuple(420 * height for height in motion) for motion in world[1]))
            self.assertEqual(wins_told(table, fine), wins_told(table, world))
            self.same(ends(table, fine), ends(table, world))
            for start in range(len(world[1])):
                self.same(reach(table, fine, start), reach(table, world, start))

    def test_few_further_ones_do_where_the_table_can_lead(self):
        done = 0
        for n in (1, 2, 3, 4):
            tables = every_table(1) if n == 1 else some_tables(n, 30, 9)
            for table, world in zip(tables * 2, some_worlds(n, 2 * len(tables), 5, 3)):
                for two in range(len(world[1])):
                    done += self.check_further(table, world, two)
        self.assertGreater(done, 50)

    def check_further(self, table, world, two):
        """Whether the table can lead from the first motion to this one; then further ones do."""
        n, motions = world
        row = order_of(motions[two], motions[0])
        if not any(row) or not can_lead(table, row):
            return 0
        rows = few(table, row)
        self.assertTrue(rows_lead(rows, row))
        fine = tuple(tuple(420 * height for height in motion) for motion in motions)
        further = bridge_told(n, rows, motions[0], motions[two])
        self.assertEqual(further[-1], fine[two])
        many = (n, fine + tuple(further[:-1]))
        self.assertIn(two, reach(table, many, 0))
        return 1

    def test_further_ones_do_not_help_where_it_cannot_lead(self):
        chance = random.Random(39)
        for table in some_tables(2, 20, 4) + some_tables(3, 20, 6):
            n = table[0]
            for row in every_row(n):
                further = [tuple(chance.randrange(-4, 5) for _ in range(n)) for _ in range(20)]
                world = (n, (level_of(n), row) + tuple(further))
                if any(row) and not can_lead(table, row):
                    self.assertNotIn(1, reach(table, world, 0))
                elif any(row):
                    way = lead_way(table, row)
                    self.assertIn(len(way) - 1, reach(table, (n, way), 0))


class Quick(WinCase):

    def test_large_worlds_are_told_quickly(self):
        begun = time.perf_counter()
        chance = random.Random(40)
        for table in (all_but_level(6), climbing(6, full_ladders(6)[777]), (6, ()), needing_all(6)):
            for high in (1, 3, BIG):
                world = (6, tuple(tuple(chance.randrange(-high, high) for _ in range(6)) for _ in range(40)))
                got = ends(table, world)
                for start in range(40):
                    come = reach(table, world, start)
                    self.assertTrue(any(set(end) <= set(come) for end in got))
                    self.assertIs(shortest(table, world, start, 39 - start) is None, 39 - start not in come)
                if not goes_round(table):
                    self.same(round_in(table, world), None)
        self.assertLess(time.perf_counter() - begun, 30)


if __name__ == "__main__":
    unittest.main()
