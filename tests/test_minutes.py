"""Minutes as a text [45], and minutes opened [46]."""

import random
import re
import time
import unittest

from common import (Case, NO_TEXTS, all_but_level, level_of, needing_all, order_of, some_tables, spoilt,
                    tables_refused_first, texts_refused)
from roundorlist import errors
from roundorlist.minutes import minutes_text, opened
from roundorlist.sittings import Sitting

UP = (1, ((1,),))
U = (2, ((0, 1), (1, 0), (1, 1)))
HEIGHT = "(?:0|-?[1-9][0-9]{0,399})"


def read_plainly(table, text):
    """The first motion and the minutes, or the name of the error and its what, word for word as [46] tells."""
    if ";" not in text:
        return ("NoStart", 0)
    heights = "(" + " ".join([HEIGHT] * table[0]) + ")"
    pieces = text[:text.rindex(";")].split(";")
    met = re.fullmatch("stands " + heights, pieces[0])
    if not met:
        return ("BadMinutes", 0)
    first = stands = tuple(int(height) for height in met[1].split(" "))
    puts = []
    for index, piece in enumerate(pieces[1:], 1):
        met = re.fullmatch(" put " + heights + " (yes|no)", piece)
        if not met:
            return ("BadMinutes", index)
        motion = tuple(int(height) for height in met[1].split(" "))
        if (order_of(motion, stands) in table[1]) != (met[2] == "yes"):
            return ("BadMinutes", index)
        puts.append((motion, met[2] == "yes"))
        stands = motion if met[2] == "yes" else stands
    return (first, tuple(puts))


def some_sittings(many):
    """So many sittings with their tables, the same ones in each run."""
    chance = random.Random(45)
    for at in range(many):
        n = 1 + at % 4
        table = some_tables(n, 30, 3 ** n - 1)[at % 30]
        sitting = Sitting(table, tuple(chance.randrange(-12, 13) for _ in range(n)))
        for _ in range(chance.randrange(12)):
            sitting.put(tuple(height + chance.randrange(-1, 2) for height in sitting.standing()))
        yield table, sitting


class MinutesCase(Case):

    def check(self, table, text):
        """A text opened, or refused, beside a plain reading."""
        wanted = read_plainly(table, text)
        if type(wanted[0]) is str:
            self.refused(*wanted, opened, table, text)
            return
        sitting = opened(table, text)
        self.assertIs(type(sitting), Sitting)
        self.same((sitting.first(), sitting.minutes()), wanted)
        self.same(sitting.standing(), ([wanted[0]] + [motion for motion, won in wanted[1] if won])[-1])
        self.same(sitting.scale(), 1)
        self.refused("NoPlan", 0, sitting.step)
        self.refused("NothingAgain", 0, sitting.again)


class MinutesText(Case):

    def test_examples(self):
        s = Sitting(UP, (0,))
        s.put((2,))
        s.put((1,))
        self.same(minutes_text(s), "stands 0; put 2 yes; put 1 no;")
        self.same(minutes_text(sitting=s), "stands 0; put 2 yes; put 1 no;")

    def test_no_put(self):
        for n in range(1, 7):
            self.same(minutes_text(Sitting((n, ()), tuple(range(-3, n - 3)))),
                      "stands " + " ".join(str(height) for height in range(-3, n - 3)) + ";")

    def test_plan_scale_and_what_can_be_put_again_are_not_told(self):
        s = Sitting(UP, (-1,))
        s.put((2,))
        s.put((1,))
        s.back()
        self.same(minutes_text(s), "stands -1; put 2 yes;")
        s.plan((3,))
        self.same(minutes_text(s), "stands -420; put 840 yes;")
        s.step()
        self.same(minutes_text(s), "stands -420; put 840 yes; put 1260 yes;")
        s.back()
        s.back()
        self.same(minutes_text(s), "stands -420;")
        s.again()
        self.same(minutes_text(s), "stands -420; put 840 yes;")

    def test_heights_of_many_figures(self):
        big = 10 ** 999
        s = Sitting(U, (-big, big))
        s.put((-big, big + 1))
        self.same(minutes_text(s), f"stands -{'1' + '0' * 999} 1{'0' * 999}; put -{'1' + '0' * 999} 1{'0' * 998}1 yes;")
        for _ in range(20):
            s.plan(tuple(height + 1 for height in s.standing()))
        self.assertTrue(minutes_text(s).startswith("stands -" + str(420 ** 20)))


class Opened(MinutesCase):

    def test_examples(self):
        s = opened(UP, "stands 0; put 2 yes; put 1 no;")
        self.same((s.first(), s.minutes()), ((0,), (((2,), True), ((1,), False))))
        s = opened(UP, "stands 0; put 2 yes; put 1 no")
        self.same((s.standing(), s.minutes()), ((2,), (((2,), True),)))
        self.refused("BadMinutes", 1, opened, UP, "stands 0; put 2 no;")
        self.refused("NoStart", 0, opened, UP, "stands 0")
        self.refused("BadMinutes", 0, opened, UP, "stands 00;")
        self.same(opened(text="stands 5;", table=UP).first(), (5,))

    def test_opened_beside_the_sitting_that_told_it(self):
        for table, sitting in some_sittings(300):
            text = minutes_text(sitting)
            again = opened(table, text)
            self.same((again.first(), again.minutes(), again.standing()),
                      (sitting.first(), sitting.minutes(), sitting.standing()))
            self.same(minutes_text(again), text)
            self.check(table, text)
            sitting.put(sitting.standing())
            self.same(minutes_text(again), text)

    def test_an_opened_sitting_goes_on(self):
        s = opened(UP, "stands 0; put 2 yes; put 1 no;")
        s.back()
        s.back()
        self.refused("NothingBack", 0, s.back)
        s.again()
        self.same(s.standing(), (2,))
        self.same(s.plan((3,)), ((1260,),))
        self.same(s.first(), (0,))

    def test_minutes_of_a_sitting_with_plans(self):
        for n in (1, 2, 3):
            sitting = Sitting(needing_all(n), level_of(n))
            for _ in range(3):
                sitting.plan(sitting.standing())
                sitting.step()
            sitting.step()
            again = opened(needing_all(n), minutes_text(sitting))
            self.same((again.first(), again.minutes()), (sitting.first(), sitting.minutes()))
            self.same(again.scale(), 1)
            self.refused("NoPlan", 0, again.step)

    def test_texts_cut_at_each_sign(self):
        for table, sitting in some_sittings(24):
            text = minutes_text(sitting)
            for end in range(len(text) + 1):
                self.check(table, text[:end])

    def test_spoilt_texts(self):
        chance = random.Random(46)
        for table, sitting in some_sittings(60):
            for text in spoilt(chance, minutes_text(sitting), " ;-0019stands put yes no", 60):
                self.check(table, text)

    def test_pieces_that_are_not_written_so(self):
        for piece in ("", " stands 0", "stands  0", "stands", "stands ", "stands 0 ", "stands 0 0", "Stands 0",
                      "stand 0", "stands 0 yes", "stands +1", "stands 1_0", "stands - 1", "put 0 yes", "stands 0x1",
                      "stands -0", "stands -01", "stands 01", "stands -", "stands --1", "stands 1.", "0"):
            self.refused("BadMinutes", 0, opened, UP, piece + ";")
            self.refused("BadMinutes", 0, opened, UP, piece + "; put 2 no;")
        for piece in ("", " ", "put 2 yes", "  put 2 yes", " put  2 yes", " put 2  yes", " put 2 yes ", " put 2", " 2 yes",
                      " put 2 Yes", " put 2 ye", " put 2 yess", " put yes", " put  yes", " put 2 2 yes", " put 2 no",
                      " put 1 yes", " put 0 yes", " put 02 yes", " put -0 no", " put +2 yes", " puts 2 yes",
                      " put 2 yes no", "stands 0", " stands 0", " put no", " put", " put ", " put 2yes", " put2 yes"):
            self.refused("BadMinutes", 1, opened, UP, "stands 1;" + piece + ";")
            self.refused("BadMinutes", 2, opened, UP, "stands 0; put 1 yes;" + piece + "; put;")
            self.same(opened(UP, "stands 0; put 1 yes;" + piece).minutes(), (((1,), True),))
        for text in (";", ";;", " ;", "x;", "0;"):
            self.refused("BadMinutes", 0, opened, UP, text)
        for text in ("", " ", "stands 0", " put 2 yes", "x"):
            self.refused("NoStart", 0, opened, UP, text)

    def test_numbers_of_heights(self):
        for n in range(1, 7):
            for many in range(1, 8):
                heights = " ".join(["7"] * many)
                for text, index in ((f"stands {heights};", 0), (f"stands {'7 ' * n}".rstrip() + f"; put {heights} no;", 1)):
                    if many == n:
                        self.same(opened((n, ()), text).first(), (7,) * n)
                    else:
                        self.refused("BadMinutes", index, opened, (n, ()), text)

    def test_yes_and_no(self):
        for motion, won in ((-1, False), (0, False), (1, True)):
            for word in ("yes", "no"):
                text = f"stands 0; put {motion} {word}; put -5 no;"
                if (word == "yes") == won:
                    self.same(opened(UP, text).minutes(), (((motion,), won), ((-5,), False)))
                else:
                    self.refused("BadMinutes", 1, opened, UP, text)

    def test_heights_of_four_hundred_figures_and_more(self):
        long, longer = "9" * 400, "1" + "0" * 400
        for sign, won in (("", "yes"), ("-", "no")):
            self.same(opened(UP, f"stands {sign}{long};").first(), (int(sign + long),))
            self.same(opened(UP, f"stands 0; put {sign}{long} {won};").minutes(), (((int(sign + long),), won == "yes"),))
            self.refused("BadMinutes", 0, opened, UP, f"stands {sign}{longer};")
            self.refused("BadMinutes", 1, opened, UP, f"stands 0; put {sign}{longer} {won};")

    def test_texts_of_many_signs(self):
        text = "stands 0;" + " put 0 no;" * 1999
        self.assertEqual(len(text), 19999)
        self.assertEqual(len(opened(UP, text).minutes()), 1999)
        self.assertEqual(len(opened(UP, text + "x").minutes()), 1999)
        self.refused("BadMinutes", 2000, opened, UP, text + ";")
        self.refused("BadText", 20000, opened, UP, text + "x;")
        self.refused("BadText", 20000, opened, UP, text + " ;" * 5000)
        self.refused("NoStart", 0, opened, UP, "x" * 20000)

    def test_what_is_asked_in_order(self):
        tables_refused_first(self, opened, "stands 0;")
        tables_refused_first(self, opened, None)
        texts_refused(self, opened, (UP,))
        for thing, what in NO_TEXTS:
            if type(thing) is str:
                self.refused("BadText", what, opened, (6, ()), thing)
        self.refused("BadText", 9, opened, UP, "stand 0;;\n")
        self.refused("BadText", 0, opened, UP, "\n")

    def test_long_texts_are_told_quickly(self):
        begun = time.perf_counter()
        table = all_but_level(6)
        sitting = Sitting(table, (0,) * 6)
        for at in range(700):
            sitting.put((at % 3,) * 6)
        text = minutes_text(sitting)
        self.assertLess(len(text), 20000)
        for _ in range(20):
            self.same(opened(table, text).minutes(), sitting.minutes())
            self.assertRaises(errors.BadMinutes, opened, table, text[:-4] + ";")
        self.assertLess(time.perf_counter() - begun, 30)


if __name__ == "__main__":
    unittest.main()
