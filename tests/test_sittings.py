"""Sittings [42], plans [43], their examples [44], and what never happens by puts alone ([0.3] (c))."""

import random
import time
import unittest

from common import (Case, NO_MANY, all_but_level, climbing, every_row, every_table, full_ladders, level_of,
                    motions_refused, needing_all, order_of, scaled, some_tables, tables_refused_first)
from roundorlist import errors
from roundorlist.kernel import bridge_right
from roundorlist.rounds import goes_round
from roundorlist.sittings import Sitting
from roundorlist.walking import can_lead

BIG = 10 ** 999
UP = (1, ((1,),))
U = (2, ((0, 1), (1, 0), (1, 1)))
W = (3, ((-1, 1, 1), (1, -1, 1), (1, 1, -1)))


def told(sitting):
    """All that a sitting tells."""
    return (sitting.standing(), sitting.first(), sitting.minutes(), sitting.scale())


class Plain:
    """A sitting reckoned anew from its puts each time, word for word as [42] and [43] tell."""

    def __init__(self, table, motion):
        self.rows, self.begun = table[1], motion
        self.puts, self.taken, self.left, self.plans = [], [], [], 0

    def standing(self):
        return ([self.begun] + [motion for motion, won in self.puts if won])[-1]

    def told(self):
        return (self.standing(), self.begun, tuple(self.puts), 420 ** self.plans)

    def put(self, motion):
        won = order_of(motion, self.standing()) in self.rows
        self.puts.append((motion, won))
        self.taken, self.left = [], []
        return won

    def back(self):
        self.taken.append(self.puts.pop())
        self.left = []

    def again(self):
        self.puts.append(self.taken.pop())
        self.left = []

    def planned(self, plan):
        self.begun = scaled(self.begun)
        self.puts = [(scaled(motion), won) for motion, won in self.puts]
        self.taken = [(scaled(motion), won) for motion, won in self.taken]
        self.plans += 1
        self.left = list(plan)

    def step(self):
        self.puts.append((self.left.pop(0), True))
        self.taken = []


class Both:
    """A sitting and a plain one, to which the same is done."""

    def __init__(self, case, table, motion):
        self.case, self.table = case, table
        self.sitting, self.plain = Sitting(table, motion), Plain(table, motion)
        self.check()

    def check(self):
        self.case.same(told(self.sitting), self.plain.told())

    def refused(self, name, what, call, *args):
        """Nothing has changed behind what is refused."""
        self.case.refused(name, what, call, *args)
        self.check()

    def put(self, motion):
        self.case.same(self.sitting.put(motion), self.plain.put(motion))
        self.check()

    def back(self):
        if not self.plain.puts:
            return self.refused("NothingBack", 0, self.sitting.back)
        self.case.same(self.sitting.back(), None)
        self.plain.back()
        return self.check()

    def again(self):
        if not self.plain.taken:
            return self.refused("NothingAgain", 0, self.sitting.again)
        self.case.same(self.sitting.again(), None)
        self.plain.again()
        return self.check()

    def step(self):
        if not self.plain.left:
            return self.refused("NoPlan", 0, self.sitting.step)
        self.case.same(self.sitting.step(), True)
        self.plain.step()
        return self.check()

    def plan(self, aim):
        one, n = self.plain.standing(), self.table[0]
        row = order_of(aim, one)
        if not can_lead(self.table, row):
            return self.refused("Barred", 0, self.sitting.plan, aim)
        if self.plain.plans == 20:
            return self.refused("Full", 20, self.sitting.plan, aim)
        plan = self.sitting.plan(aim)
        self.case.assertIs(type(plan), tuple)
        self.case.assertLessEqual(len(plan), n if any(row) else n + 1)
        self.case.assertIs(bridge_right(self.table, one, aim, (scaled(one),) + plan), True)
        self.plain.planned(plan)
        return self.check()


class Sittings(Case):

    def test_examples(self):
        s = Sitting((1, ((1,),)), (0,))
        self.same(s.put((2,)), True)
        self.same(s.put((1,)), False)
        self.same(s.standing(), (2,))
        self.same(s.minutes(), (((2,), True), ((1,), False)))
        self.same(s.plan((3,)), ((1260,),))
        self.same(s.scale(), 420)
        self.same(s.first(), (0,))
        self.same(s.standing(), (840,))
        self.same(s.minutes(), (((840,), True), ((420,), False)))
        self.same(s.step(), True)
        self.same(s.standing(), (1260,))
        self.refused("NoPlan", 0, s.step)
        s.back()
        self.same(s.standing(), (840,))
        s.again()
        self.same(s.standing(), (1260,))
        self.refused("Barred", 0, s.plan, (1260,))
        self.refused("Barred", 0, s.plan, (3,))
        self.same(s.put((1680,)), True)

    def test_names_of_the_arguments(self):
        s = Sitting(motion=(0,), table=UP)
        self.same(s.put(motion=(2,)), True)
        self.same(s.plan(aim=(3,)), ((1260,),))

    def test_at_the_beginning(self):
        for n in range(1, 7):
            motion = tuple(range(-2, n - 2))
            self.same(told(Sitting((n, ()), motion)), (motion, motion, (), 1))
            for call in (Sitting((n, ()), motion).back, Sitting(all_but_level(n), motion).back):
                self.refused("NothingBack", 0, call)
            self.refused("NothingAgain", 0, Sitting((n, ()), motion).again)
            self.refused("NoPlan", 0, Sitting((n, ()), motion).step)

    def test_puts_win_lose_and_are_level(self):
        for table in every_table(1) + every_table(2) + some_tables(3, 20, 20):
            for row in every_row(table[0]):
                both = Both(self, table, (5, -5, 0)[:table[0]])
                both.put(tuple(height + sign * 3 for height, sign in zip(both.plain.begun, row)))
                self.same(both.sitting.minutes()[0][1], row in table[1])
                both.put(both.sitting.standing())
                self.same(both.sitting.minutes()[1][1], False)

    def test_back_and_again_in_runs(self):
        both = Both(self, U, (0, 0))
        both.back()
        both.again()
        motions = [(0, 1), (0, 0), (2, 1), (3, 0), (2, 2), (2, 2)]
        for motion in motions:
            both.put(motion)
        self.same(both.sitting.standing(), (2, 2))
        for many in (1, 3, 6):
            for _ in range(many):
                both.back()
            for _ in range(many):
                both.again()
            both.again()
        for _ in range(8):
            both.back()
        self.same(both.sitting.minutes(), ())
        both.again()
        both.put((0, 0))
        both.again()
        both.back()
        both.back()
        both.again()
        self.same(both.sitting.minutes(), (((0, 1), True),))
        both.again()
        self.same(both.sitting.minutes(), (((0, 1), True), ((0, 0), False)))

    def test_puts_that_lose_empty_what_can_be_put_again(self):
        for motion in ((1, 1), (-1, -1), (0, 0)):
            both = Both(self, U, (0, 0))
            both.put((1, 0))
            both.back()
            both.put(motion)
            both.again()
            both.refused("NothingAgain", 0, both.sitting.again)

    def test_a_motion_put_again_is_put_as_it_was(self):
        both = Both(self, W, (0, 0, 0))
        both.put((-1, 1, 1))
        both.put((0, 0, 2))
        both.back()
        both.back()
        both.again()
        self.same(both.sitting.standing(), (-1, 1, 1))
        both.again()
        self.same(both.sitting.standing(), (0, 0, 2))

    def test_minutes_told_ahead_stay_as_they_were(self):
        s = Sitting(UP, (0,))
        s.put((2,))
        ahead = s.minutes()
        s.put((3,))
        s.plan((4,))
        s.step()
        s.back()
        self.same(ahead, (((2,), True),))

    def test_what_is_asked_in_order(self):
        tables_refused_first(self, Sitting, (0,))
        tables_refused_first(self, Sitting, None)
        for n in range(1, 7):
            motions_refused(self, Sitting, n, ((n, ()),))
            sitting = Sitting(all_but_level(n), (0,) * n)
            motions_refused(self, sitting.put, n, ())
            motions_refused(self, sitting.plan, n, ())
            self.same(told(sitting), ((0,) * n, (0,) * n, (), 1))
        for many in NO_MANY:
            self.refused("BadMany", many, Sitting, (many, ()), (0,))

    def test_two_sittings_have_nothing_in_common(self):
        one, two = Both(self, W, (0, 0, 0)), Both(self, W, (0, 0, 0))
        one.put((-1, 1, 1))
        two.check()
        two.put((1, 1, -1))
        two.plan((5, 5, 5))
        one.check()
        one.step()
        one.back()
        two.step()
        two.again()
        one.again()
        two.check()
        one.check()
        self.same(one.sitting.scale(), 1)

    def test_heights_below_nought_and_of_many_figures(self):
        both = Both(self, U, (-BIG, BIG))
        both.put((-BIG, BIG + 1))
        both.put((1 - BIG, BIG))
        both.put((1 - BIG, BIG + 1))
        both.plan((-1, BIG + 2))
        both.step()
        self.same(both.sitting.standing()[1], 420 * BIG + 840)


class Plans(Case):

    def test_some_steps_of_a_plan(self):
        for done in range(4):
            for behind in ("put", "back", "again", "plan", "nothing"):
                both = Both(self, needing_all(3), (0, 0, 0))
                both.put((1, 0, 0))
                both.plan((1, 0, 0))
                self.assertEqual(len(both.plain.left), 4)
                for _ in range(done):
                    both.step()
                if behind == "put":
                    both.put(both.sitting.standing())
                elif behind == "plan":
                    both.plan((-420, -420, -420))
                elif behind == "back":
                    both.back()
                elif behind == "again":
                    both.again()
                for _ in range(5):
                    both.step()

    def test_behind_the_last_step(self):
        both = Both(self, W, (0, 0, 0))
        both.plan((1, 0, 0))
        while both.plain.left:
            both.step()
        self.same(both.sitting.standing(), (420, 0, 0))
        both.step()

    def test_puts_back_and_again_drop_the_plan(self):
        for motion in ((-9, -9, -9), (10 ** 6,) * 3):
            both = Both(self, W, (0, 0, 0))
            both.plan((1, 0, 0))
            both.put(motion)
            self.refused("NoPlan", 0, both.sitting.step)
        both = Both(self, W, (0, 0, 0))
        both.plan((1, 0, 0))
        both.step()
        both.back()
        self.refused("NoPlan", 0, both.sitting.step)
        both = Both(self, W, (0, 0, 0))
        both.put((0, 0, 0))
        both.back()
        both.plan((1, 0, 0))
        both.again()
        self.refused("NoPlan", 0, both.sitting.step)

    def test_calls_that_raise_leave_the_plan(self):
        both = Both(self, needing_all(3), (0, 0, 0))
        both.plan((0, 0, 0))
        both.refused("NothingBack", 0, both.sitting.back)
        both.refused("NothingAgain", 0, both.sitting.again)
        both.refused("BadMotion", -1, both.sitting.put, (1, 2))
        both.refused("BadMotion", 2, both.sitting.plan, (1, 2, True))
        both.step()
        both = Both(self, UP, (0,))
        both.plan((1,))
        both.refused("Barred", 0, both.sitting.plan, (0,))
        both.refused("Barred", 0, both.sitting.plan, (-1,))
        both.step()
        self.same(both.sitting.standing(), (420,))

    def test_what_can_be_put_again_becomes_fine(self):
        both = Both(self, UP, (0,))
        for motion in ((3,), (2,), (5,)):
            both.put(motion)
        both.back()
        both.back()
        both.plan((9,))
        self.same(both.sitting.minutes(), (((1260,), True),))
        both.again()
        both.plan((1500,))
        both.again()
        self.same(both.sitting.standing(), (5 * 420 * 420,))
        self.same(both.sitting.minutes(), tuple(((420 ** 2 * height,), height != 2) for height in (3, 2, 5)))

    def test_steps_empty_what_can_be_put_again(self):
        both = Both(self, needing_all(2), (0, 0))
        both.put((1, 0))
        both.back()
        both.plan((0, 0))
        both.step()
        both.again()
        both.step()

    def test_back_of_steps(self):
        both = Both(self, needing_all(2), (0, 0))
        both.plan((0, 0))
        for _ in range(3):
            both.step()
        for _ in range(4):
            both.back()
        for _ in range(4):
            both.again()
        self.same(both.sitting.standing(), (0, 0))

    def test_a_plan_in_the_place_of_another_one(self):
        both = Both(self, UP, (0,))
        both.plan((1,))
        both.plan((2,))
        both.step()
        self.same(both.sitting.standing(), (840,))
        both.step()
        self.same(both.sitting.scale(), 420 ** 2)

    def test_twenty_plans_and_no_more(self):
        for table, up in ((UP, True), (needing_all(1), False)):
            both = Both(self, table, (0,))
            both.put((1,))
            for many in range(20):
                self.same(both.sitting.scale(), 420 ** many)
                both.plan((both.sitting.standing()[0] + (1 if many % 3 else 10 ** 70),))
                if many % 2:
                    both.step()
            self.same(both.sitting.scale(), 420 ** 20)
            both.refused("Full", 20, both.sitting.plan, (BIG,))
            if up:
                both.refused("Barred", 0, both.sitting.plan, both.sitting.standing())
                both.refused("Barred", 0, both.sitting.plan, (-1,))
            else:
                both.refused("Full", 20, both.sitting.plan, both.sitting.standing())
            both.refused("BadMotion", -1, both.sitting.plan, ())
            for _ in range(30):
                both.back()
            both.refused("Full", 20, both.sitting.plan, (BIG,))
            self.same(both.sitting.scale(), 420 ** 20)

    def test_a_full_plan_leaves_the_one_that_there_is(self):
        both = Both(self, needing_all(6), (0,) * 6)
        for _ in range(20):
            both.plan((0,) * 6)
        both.step()
        both.refused("Full", 20, both.sitting.plan, both.sitting.standing())
        for _ in range(6):
            both.step()
        self.same(both.sitting.standing(), (0,) * 6)
        both.step()

    def test_puts_with_scale_times_the_heights(self):
        both = Both(self, U, (0, 0))
        both.put((1, 3))
        for many in range(1, 5):
            both.plan(tuple(height + 1 for height in both.sitting.standing()))
            scale = both.sitting.scale()
            self.same(scale, 420 ** many)
            self.same(both.sitting.put((1 * scale, 3 * scale)), False)
            both.plain.put((1 * scale, 3 * scale))
            both.put((1 * scale, 4 * scale))
            both.back()

    def test_one_after_another_by_chance(self):
        chance = random.Random(43)
        for n in (1, 2, 3, 4):
            for table in some_tables(n, 40, min(3 ** n - 1, 12)):
                both = Both(self, table, level_of(n))
                for _ in range(40):
                    self.by_chance(chance, both, n)

    def by_chance(self, chance, both, n):
        deed = chance.choice(("put", "put", "back", "back", "again", "plan", "step", "step"))
        near = tuple(height + chance.randrange(-1, 2) * chance.choice((1, both.sitting.scale()))
                     for height in both.sitting.standing())
        if deed == "put":
            both.put(near)
        elif deed == "plan":
            both.plan(near)
        else:
            getattr(both, deed)()


class NeverBack(Case):

    def test_no_motion_comes_back_by_puts_if_the_table_does_not_go_round(self):
        chance = random.Random(3)
        tables = [climbing(3, full_ladders(3)[5]), U, climbing(4, full_ladders(4)[77])]
        tables += [table for table in every_table(2) + some_tables(3, 60, 5) if not goes_round(table)]
        for table in tables:
            sitting = Sitting(table, level_of(table[0]))
            stood = [sitting.standing()]
            for _ in range(60):
                sitting.put(tuple(chance.randrange(-2, 3) for _ in range(table[0])))
                if sitting.standing() != stood[-1]:
                    self.assertNotIn(sitting.standing(), stood)
                    stood.append(sitting.standing())

    def test_it_does_by_a_plan_if_the_table_goes_round(self):
        for table in every_table(2) + some_tables(3, 60, 9):
            if goes_round(table):
                sitting = Sitting(table, level_of(table[0]))
                stood = [sitting.put(motion) for motion in sitting.plan(level_of(table[0]))]
                self.same(tuple(stood), (True,) * len(stood))
                self.same(sitting.standing(), level_of(table[0]))


class Quick(Case):

    def test_long_sittings_are_told_quickly(self):
        begun = time.perf_counter()
        ladder = full_ladders(6)[777]
        signs = tuple(sign for _, sign in sorted(ladder))
        for table in (all_but_level(6), climbing(6, ladder)):
            sitting = Sitting(table, (0,) * 6)
            for at in range(4000):
                sitting.put((at, -at, at % 7, at % 5, 3, BIG))
            for _ in range(2000):
                sitting.back()
            for _ in range(20):
                sitting.plan(tuple(height + sign for height, sign in zip(sitting.standing(), signs)))
            for _ in range(2000):
                sitting.again()
            self.assertEqual(len(sitting.minutes()), 4000)
            self.same(sitting.scale(), 420 ** 20)
        self.assertLess(time.perf_counter() - begun, 30)

    def test_no_error_leaves_a_trace(self):
        sitting = Sitting(UP, (0,))
        for _ in range(50):
            for call, args in ((sitting.back, ()), (sitting.again, ()), (sitting.step, ()), (sitting.plan, ((0,),)),
                               (sitting.put, (None,)), (sitting.plan, (None,))):
                self.assertRaises(errors.Refused, call, *args)
                self.same(told(sitting), ((0,), (0,), (), 1))


if __name__ == "__main__":
    unittest.main()
