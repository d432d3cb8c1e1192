"""Texts and words [52], names [53], rows and lots [58], motions [59], ladders as texts [60], there and back [61]."""

import random
import time
import unittest

from common import (Case, NAMES_KEPT, NO_MANY, NO_NAMES, NO_TEXTS, all_but_level, every_ladder, every_lot, every_row,
                    full_ladders, ladders_refused, lots_refused_first, motions_refused, names_refused, rows_refused,
                    some_lots, spoilt, texts_refused, words_told)
from readers import ladder_plain, lot_plain, motion_plain, row_plain
from roundorlist.texts import (made_names, print_ladder, print_lot, print_motion, print_row, read_ladder, read_lot,
                               read_motion, read_row)
from roundorlist.words import ask_text, is_figure_word, is_name, told_words, words_of

BIG = 10 ** 999
ABC = ("a", "b", "c")
SIX = ("ann", "b2", "c", "d", "e", "longestname9")


class ReadCase(Case):

    def check(self, call, wanted, *args):
        """What is read, or refused, is as a plain reader tells."""
        if wanted and type(wanted[0]) is str:
            self.refused(*wanted, call, *args)
        else:
            self.same(call(*args), wanted)


class TextsAndWords(Case):

    def test_texts(self):
        for text in ("", "a", " ", "~", " ~", "x" * 19999, "x" * 20000, "".join(chr(code) for code in range(32, 127))):
            self.same(ask_text(text), None)
        for thing, what in NO_TEXTS:
            self.refused("BadText", what, ask_text, thing)
        for code in range(256):
            if not 32 <= code <= 126:
                self.refused("BadText", 1, ask_text, "a" + chr(code))

    def test_words(self):
        for text, words in (("9a", [("9a", 0)]), ("aB", [("a", 0), ("B", 1)]), ("", []), ("  ", []), (" a ", [("a", 1)]),
                            ("a,b", [("a", 0), (",", 1), ("b", 2)]), ("a2 2a", [("a2", 0), ("2a", 3)]),
                            ("((", [("(", 0), ("(", 1)]), ("a_b", [("a", 0), ("_", 1), ("b", 2)])):
            self.assertEqual(words_of(text), words)
        chance = random.Random(52)
        for _ in range(500):
            text = "".join(chance.choice("ab09 ,;A(") for _ in range(chance.randrange(12)))
            self.assertEqual(words_of(text) + [("", len(text))], words_told(text))

    def test_figure_words(self):
        for word in ("0", "1", "9", "10", "123456", "999999"):
            self.same(is_figure_word(word), True)
        for word in ("", "00", "01", "1234567", "a", "1a", "a1", "-1", "+", ",", "0000000", "012345"):
            self.same(is_figure_word(word), False)

    def test_told_words(self):
        for words, text in ((["a"], "a"), (["a", ",", "b", ";"], "a, b;"), (["not", "(", "a", ")"], "not (a)"),
                            (["(", "(", "a", ":", ")"], "((a:)"), (["a", "<", "1", "=", ">"], "a < 1 = >"), ([], "")):
            self.same(told_words(words), text)


class Names(Case):

    def test_examples(self):
        self.same(made_names(("a", "b", "c")), ("a", "b", "c"))
        self.refused("BadNames", 1, made_names, ("a", "up"))
        self.refused("BadNames", 2, made_names, ("a", "b", "a"))

    def test_names_are_returned(self):
        for names in (ABC, SIX, ("a",), ("z9",), ("abcdefghijkl",), ("a00000000009",), ("ups", "iff", "no", "ov", "nones"),
                      tuple(word + "0" for word in NAMES_KEPT[:6]), tuple(word[:-1] + "x" for word in NAMES_KEPT[3:9])):
            self.same(made_names(names), names)
        self.same(made_names(thing=("a",)), ("a",))

    def test_what_is_none(self):
        names_refused(self, made_names)

    def test_kept_words_are_no_names(self):
        self.assertEqual(len(set(NAMES_KEPT)), 14)
        for word in NAMES_KEPT:
            self.same(is_name(word), False)
            self.same(is_name(word + "s"), True)


class RowTexts(ReadCase):

    def test_examples(self):
        self.same(print_row(3, (1, 0, -1)), "+0-")
        self.same(read_row(3, "+0-"), (1, 0, -1))
        self.refused("BadText", 2, read_row, 3, "+0")
        self.refused("BadText", 2, read_row, 3, "+0 -")
        self.same(print_row(row=(1, 0), n=2), "+0")
        self.same(read_row(text="+0", n=2), (1, 0))

    def test_there_and_back(self):
        for n in range(1, 7):
            for row in every_row(n):
                text = print_row(n, row)
                self.assertEqual((type(text), len(text)), (str, n))
                self.same(read_row(n, text), row)
                self.same(row_plain(n, text), row)

    def test_spoilt_texts(self):
        chance = random.Random(58)
        for n in range(1, 7):
            for row in every_row(n)[::5]:
                text = print_row(n, row)
                for other in spoilt(chance, text, "+-0 1n", 6) + [text[:end] for end in range(n)] + [text + "+", " " + text]:
                    self.check(read_row, row_plain(n, other), n, other)
            for other in ("", " ", "none", "+" * 7, "+" * 20000, "0" * n + " ", "o" * n, "1" * n, "~"):
                self.check(read_row, row_plain(n, other), n, other)

    def test_what_is_asked_in_order(self):
        for n in NO_MANY:
            for call in (print_row, read_row):
                self.refused("BadMany", n, call, n, None)
        for n in range(1, 7):
            rows_refused(self, print_row, n, (n,))
            texts_refused(self, read_row, (n,))
        self.refused("BadText", 5, read_row, 3, "xxxxx\n")


class LotTexts(ReadCase):

    def test_examples(self):
        self.same(read_lot(2, "++ 0+"), (2, ((0, 1), (1, 1))))
        self.refused("Twice", 3, read_lot, 2, "++ ++")
        self.refused("BadText", 1, read_lot, 2, "+")
        self.refused("BadText", 0, read_lot, 2, "")
        self.refused("BadText", 3, read_lot, 2, "++  0+")
        self.same(print_lot((2, ((0, 1), (1, 1)))), "0+ ++")
        self.same(print_lot(lot=(2, ())), "none")
        self.same(read_lot(text="none", n=4), (4, ()))

    def test_there_and_back(self):
        for lot in every_lot(1) + every_lot(2) + some_lots(3, 60, 27) + some_lots(6, 20, 700) + [all_but_level(6)]:
            text = print_lot(lot)
            self.same(read_lot(lot[0], text), lot)
            self.same(print_lot(read_lot(lot[0], text)), text)
            self.same(lot_plain(lot[0], text), lot)
        self.same(read_lot(6, print_lot((6, every_row(6)))), (6, every_row(6)))

    def test_rows_in_any_order(self):
        chance = random.Random(58)
        for lot in some_lots(3, 40, 20):
            pieces = print_lot(lot).split(" ")
            chance.shuffle(pieces)
            self.same(read_lot(3, " ".join(pieces)), lot)

    def test_spoilt_texts(self):
        chance = random.Random(59)
        for lot in some_lots(1, 10, 3) + some_lots(2, 20, 6) + some_lots(3, 20, 6) + some_lots(6, 5, 4):
            text = print_lot(lot)
            others = spoilt(chance, text, "+-0  n", 30) + [text[:end] for end in range(len(text))]
            for other in others + [text + " ", " " + text, text + " " + text, text + " none", text + "x"]:
                self.check(read_lot, lot_plain(lot[0], other), lot[0], other)

    def test_none(self):
        for n in range(1, 7):
            self.same(read_lot(n, "none"), (n, ()))
            self.same(print_lot((n, ())), "none")
            for text in ("non", "nones", " none", "none ", "None", "none none"):
                self.refused("BadText", 0, read_lot, n, text)

    def test_what_is_asked_in_order(self):
        lots_refused_first(self, print_lot)
        for n in NO_MANY:
            self.refused("BadMany", n, read_lot, n, None)
        texts_refused(self, read_lot, (6,))
        self.refused("Twice", 3, read_lot, 2, "++ ++ x")
        self.refused("BadText", 0, read_lot, 2, "x ++ ++")
        self.refused("BadText", 8, read_lot, 2, "++ ++ x \n")


class MotionTexts(ReadCase):

    def test_examples(self):
        self.same(print_motion(2, (3, -12)), "3 -12")
        self.same(read_motion(2, "3 -12"), (3, -12))
        for n, text, place in ((2, "3", 1), (2, "3  4", 2), (2, "3 4 5", 4), (2, "3 04", 2), (1, "", 0)):
            self.refused("BadText", place, read_motion, n, text)
        self.same(print_motion(motion=(3,), n=1), "3")
        self.same(read_motion(text="3", n=1), (3,))

    def test_there_and_back(self):
        chance = random.Random(61)
        long = 10 ** 400 - 1
        for n in range(1, 7):
            for high in (1, 3, 11, 10 ** 6, long):
                for _ in range(20):
                    motion = tuple(chance.choice((chance.randint(-high, high), high, -high)) for _ in range(n))
                    text = print_motion(n, motion)
                    self.same(read_motion(n, text), motion)
                    self.same(print_motion(n, read_motion(n, text)), text)

    def test_heights_that_can_be_read(self):
        nines, more = "9" * 400, "1" + "0" * 400
        for text in ("0", "1", "-1", "10", "-10", nines, "-" + nines, "1" + "0" * 399):
            self.same(read_motion(1, text), (int(text),))
        for text in ("-0", "00", "01", "-01", "+1", "-", "--1", "1-", "a", "1a", "0x1", "1_0", ",", more, "-" + more,
                     "0" + nines, "9" * 1000, "-00", "1.", "~"):
            self.refused("BadText", 0, read_motion, 1, text)
            self.refused("BadText", 3, read_motion, 3, "-7 " + text + " 5")
            self.refused("BadText", 3, read_motion, 2, "-7 " + text)

    def test_however_many_figures_are_told(self):
        self.same(print_motion(2, (BIG, -BIG)), "1" + "0" * 999 + " -1" + "0" * 999)
        self.same(print_motion(1, (10 ** 400,)), "1" + "0" * 400)

    def test_spoilt_texts(self):
        chance = random.Random(60)
        for n in range(1, 7):
            for _ in range(20):
                text = print_motion(n, tuple(chance.choice((0, 5, -30, 100, -7)) for _ in range(n)))
                others = spoilt(chance, text, "-0 7  a", 20) + [text[:end] for end in range(len(text))]
                for other in others + [text + " ", " " + text, text + " 0", text + " x", text.replace(" ", "  ")]:
                    self.check(read_motion, motion_plain(n, other), n, other)

    def test_what_is_asked_in_order(self):
        for n in NO_MANY:
            for call in (print_motion, read_motion):
                self.refused("BadMany", n, call, n, None)
        for n in range(1, 7):
            motions_refused(self, print_motion, n, (n,))
            texts_refused(self, read_motion, (n,))
        self.refused("BadText", 3, read_motion, 3, "x y\n")


class LadderTexts(ReadCase):

    def test_examples(self):
        self.same(print_ladder(ABC, ((2, -1), (0, 1))), "c down, a up")
        self.same(read_ladder(ABC, "c down, a up"), ((2, -1), (0, 1)))
        for text, name, place in (("a up, a down", "Twice", 6), ("a up, d up", "NoName", 6), ("a over", "BadText", 2),
                                  ("", "BadText", 0)):
            self.refused(name, place, read_ladder, ABC, text)
        self.same(print_ladder(ladder=(), names=ABC), "none")
        self.same(read_ladder(text="none", names=ABC), ())

    def test_there_and_back(self):
        for names in (("x",), ABC[:2], ABC, SIX[:4]):
            for ladder in every_ladder(len(names)):
                text = print_ladder(names, ladder)
                self.same(read_ladder(names, text), ladder)
                self.same(print_ladder(names, read_ladder(names, text)), text)
                self.same(ladder_plain(names, text), ladder)
        for ladder in full_ladders(6)[::500]:
            self.same(read_ladder(SIX, print_ladder(SIX, ladder)), ladder)

    def test_blanks_only_part_words(self):
        for text in ("a up,b down", "  a   up , b  down  ", "a up ,b down ", "a up,     b down"):
            self.same(read_ladder(ABC, text), ((0, 1), (1, -1)))
        self.same(read_ladder(ABC, " none "), ())

    def test_spoilt_texts(self):
        chance = random.Random(60)
        for ladder in every_ladder(3)[::3]:
            text = print_ladder(ABC, ladder)
            others = spoilt(chance, text, ["a", "b", "d ", "up", "none", "down", ",", " ", "over", "A", "9"], 40)
            for other in others + [text[:end] for end in range(len(text))] + [text + ",", text + " up", "," + text]:
                self.check(read_ladder, ladder_plain(ABC, other), ABC, other)

    def test_words_that_cannot_stand(self):
        for text, name, place in (
                ("none none", "BadText", 5), ("none, a up", "BadText", 4), ("a up, none", "BadText", 6), ("a", "BadText", 1),
                ("a  ", "BadText", 3), ("a up,", "BadText", 5), ("a up b up", "BadText", 5), ("up a", "BadText", 0),
                ("a up, up", "BadText", 6), ("d up", "NoName", 0), ("members up", "BadText", 0), ("d over", "NoName", 0),
                ("a up, A up", "BadText", 6), ("aaaaaaaaaaaaa up", "BadText", 0), ("aaaaaaaaaaaa up", "NoName", 0),
                ("a up, a over", "Twice", 6), ("9 up", "BadText", 0), ("a down; b up", "BadText", 6), ("   ", "BadText", 3)):
            self.refused(name, place, read_ladder, ABC, text)
            self.assertEqual(ladder_plain(ABC, text), (name, place))

    def test_what_is_asked_in_order(self):
        names_refused(self, print_ladder, None)
        names_refused(self, read_ladder, None)
        ladders_refused(self, print_ladder, (ABC[:2],))
        texts_refused(self, read_ladder, (ABC,))
        self.refused("BadLadder", 0, print_ladder, ("a",), ((1, 1),))
        self.refused("BadText", 8, read_ladder, ABC, "d over x\n")
        self.assertGreater(len(NO_NAMES), 30)

    def test_long_texts_are_told_quickly(self):
        begun = time.perf_counter()
        for text in ("a up, b up, c up" + " " * 19984, "a" * 20000, "a up," * 4000, "," * 20000, " " * 20000, "0 " * 10000):
            self.check(read_ladder, ladder_plain(ABC, text), ABC, text)
            self.check(read_lot, lot_plain(3, text), 3, text)
            self.check(read_motion, motion_plain(3, text), 3, text)
            self.check(read_row, row_plain(3, text), 3, text)
        self.assertLess(time.perf_counter() - begun, 20)


if __name__ == "__main__":
    unittest.main()
