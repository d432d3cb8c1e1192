"""Councils as texts [54], formulas [55], wins of councils [56], councils told [57], there and back [61]."""

import random
import time
import unittest

from common import NAMES_KEPT, Case, every_row, level_of, rows_refused, spoilt, texts_refused
from councils import (council_by_chance, council_plain, council_text, formula_text, true_told)
from roundorlist.errors import Refused
from roundorlist.ruletexts import print_council, read_council, table_of, true_at
from roundorlist.tables import is_table

K = (("a", "b", "c"), (), ("and", (("not", ("is", 0, -1)), (
    "less", ("number", 1), ("votes", 1, ((0, 1), (1, 1), (2, 1)))))))
KTEXT = "members a, b, c; wins if not a under and over > 1"
DTEXT = "members a, b, c; chamber d: over of (b, c) > 1; wins if a over and not d under"
LETTERS = "abcdefghijklmnopqrstuvwxyz"
WORDS = tuple(NAMES_KEPT) + ("a", "b", "x", "house0", "0", "1", "12", "007", "1234567", ";", ",", ":", "(", ")", "<", ">",
                             "=", "A", "-", "aaaaaaaaaaaaa", " ")


def some_councils(many, deep=3):
    """So many texts of councils, the same ones in each run."""
    chance = random.Random(54 + deep)
    return [council_by_chance(chance, 1 + at % 6, at % 4 if at % 7 else 6, deep if at % 6 else 1) for at in range(many)]


def wins(formula, members="a, b, c", chambers=""):
    return f"members {members}; {chambers}wins if {formula}"


class CouncilCase(Case):

    def check(self, text):
        """What is read, or refused, is as a plain reader tells."""
        wanted = council_plain(text)
        if type(wanted[0]) is str:
            self.refused(*wanted, read_council, text)
        else:
            self.same(read_council(text), wanted)
        return wanted

    def wrong(self, text, name, place):
        self.refused(name, place, read_council, text)
        self.assertEqual(council_plain(text), (name, place))

    def formula(self, text, wanted, members="a, b, c", chambers=""):
        council = read_council(wins(text, members, chambers))
        self.same(council[2], wanted)
        self.check(wins(text, members, chambers))


class ReadCouncil(CouncilCase):

    def test_examples(self):
        self.same(read_council(KTEXT), K)
        self.same(read_council(text=KTEXT), K)
        for text, name, place in (
                ("members a, a; wins if a over", "Twice", 11),
                ("members a, b, c, d, e, f, a; wins if a over", "TooMany", 26),
                ("members if; wins if a over", "BadText", 8),
                ("members a; wins if a", "BadText", 20),
                ("members a; wins if b over", "NoName", 19),
                ("members a; wins if over of (a, a) > 1", "Twice", 31),
                ("members a; wins if over", "BadText", 23),
                ("members a; chamber b: b over; wins if a over", "NoName", 22)):
            self.wrong(text, name, place)

    def test_formula_examples(self):
        self.formula("over of (a 2, b) = under",
                     ("same", ("votes", 1, ((0, 2), (1, 1))), ("votes", -1, ((0, 1), (1, 1)))), "a, b")
        over = [("is", member, 1) for member in range(3)]
        self.formula("a over or b over or c over", ("or", tuple(over)))
        self.formula("a over or (b over or c over)", ("or", (over[0], ("or", (over[1], over[2])))))

    def test_units_and_parts(self):
        a, b, c = ("is", 0, 1), ("is", 1, 0), ("is", 2, -1)
        for text, wanted in (
                ("a over", a), ("b level", b), ("c under", c), ("not a over", ("not", a)), ("(a over)", a),
                ("((a over))", a), ("not not a over", ("not", ("not", a))), ("not (a over)", ("not", a)),
                ("(not a over)", ("not", a)), ("a over and b level", ("and", (a, b))),
                ("a over and b level or c under", ("or", (("and", (a, b)), c))),
                ("a over or b level and c under", ("or", (a, ("and", (b, c))))),
                ("(a over or b level) and c under", ("and", (("or", (a, b)), c))),
                ("(a over and b level) and c under", ("and", (("and", (a, b)), c))),
                ("not a over and b level", ("and", (("not", a), b))),
                ("not (a over and b level)", ("not", ("and", (a, b)))),
                ("a over and (b level or c under) or a over", ("or", (("and", (a, ("or", (b, c)))), a))),
                ("a over or a over and a over or a over", ("or", (a, ("and", (a, a)), a)))):
            self.formula(text, wanted)

    def test_counts(self):
        every = ((0, 1), (1, 1), (2, 1))
        for text, wanted in (
                ("1 < 2", ("less", ("number", 1), ("number", 2))), ("2 > 1", ("less", ("number", 1), ("number", 2))),
                ("0 = 999999", ("same", ("number", 0), ("number", 999999))),
                ("over < under", ("less", ("votes", 1, every), ("votes", -1, every))),
                ("level = 3", ("same", ("votes", 0, every), ("number", 3))),
                ("under of (c) > 0", ("less", ("number", 0), ("votes", -1, ((2, 1),)))),
                ("over of (c 0, a 1, b 17) = 1", ("same", ("votes", 1, ((2, 0), (0, 1), (1, 17))), ("number", 1))),
                ("1=over of(a)", ("same", ("number", 1), ("votes", 1, ((0, 1),)))),
                ("not over>1 and under<1", ("and", (("not", ("less", ("number", 1), ("votes", 1, every))),
                                                    ("less", ("votes", -1, every), ("number", 1)))))):
            self.formula(text, wanted)

    def test_members_and_chambers(self):
        for many in range(1, 7):
            names = tuple(LETTERS[:many])
            self.same(read_council(wins("a over", ", ".join(names))), (names, (), ("is", 0, 1)))
            parts = "".join(f"chamber x{at}: {'x' + str(at - 1) if at else 'a'} over; " for at in range(many))
            council = read_council(wins(f"x{many - 1} level", "a", parts))
            self.same(council, (("a",), tuple((f"x{at}", ("is", at, 1)) for at in range(many)), ("is", many, 0)))
        for seventh in ("g", "a", "f"):
            self.wrong(wins("a over", "a, b, c, d, e, f, " + seventh), "TooMany", 26)
        six = "".join(f"chamber x{at}: a over; " for at in range(6))
        self.check(wins("x5 over", "a", six))
        for seventh in ("y", "x0", "x5", "a"):
            self.wrong(wins("a over", "a", six + f"chamber {seventh}: a over; "), "TooMany", 11 + 20 * 6 + 8)
        self.wrong(wins("a over", "a", six + "chamber if: a over; "), "BadText", 139)
        self.wrong(wins("a over", "a, b, c, d, e, f, if"), "BadText", 26)
        self.wrong(wins("a over", "a", "chamber a: a over; "), "Twice", 19)
        self.wrong(wins("a over", "a", "chamber d: a over; chamber d: a over; "), "Twice", 38)

    def test_chambers_ahead_and_behind(self):
        for text, name, place in (("d over", "NoName", 22), ("e over", "NoName", 22), ("not d over", "NoName", 26),
                                  ("over of (a, d) > 1", "NoName", 34), ("over of (d, d) > 1", "NoName", 31)):
            self.wrong(wins("a over", "a", f"chamber d: {text}; chamber e: a over; "), name, place)
        self.check(wins("e over and d over", "a", "chamber d: a over; chamber e: d over; "))
        self.wrong(wins("f over", "a", "chamber d: a over; chamber e: d over; "), "NoName", 57)

    def test_voters(self):
        for text, name, place in (
                ("over of (a, b, a) > 1", "Twice", 40), ("over of (a 2, a 3) > 1", "Twice", 39), ("over of () > 1", "BadText", 34),
                ("over of a > 1", "BadText", 33), ("over of (a b) > 1", "BadText", 36), ("over of (a 1 2) > 1", "BadText", 38),
                ("over of (a,) > 1", "BadText", 36), ("over of (2 a) > 1", "BadText", 34), ("over of (a 01) > 1", "BadText", 36),
                ("over of (a 1234567) > 1", "BadText", 36), ("over of (over) > 1", "BadText", 34), ("a of (b) > 1", "BadText", 27),
                ("over of (a; b) > 1", "BadText", 35), ("over of (x, x) > 1", "NoName", 34), ("1 of (a) > 1", "BadText", 27),
                ("over of (a)", "BadText", 36), ("over of (a) over", "BadText", 37), ("over of ((a)) > 1", "BadText", 34)):
            self.wrong(wins(text), name, place)
        self.formula("over of (a, b) > over of (a, b)",
                     ("less", ("votes", 1, ((0, 1), (1, 1))), ("votes", 1, ((0, 1), (1, 1)))))
        self.formula("over of (a 123456, d 0) > 1", ("less", ("number", 1), ("votes", 1, ((0, 123456), (1, 0)))),
                     "a", "chamber d: a over; ")

    def test_words_that_cannot_stand(self):
        for text, place in (
                ("", 0), (" ", 1), ("member a; wins if a over", 0), ("membersa; wins if a over", 0), ("members", 7),
                ("members ;", 8), ("members a", 9), ("members a wins if a over", 10), ("members a, ; wins if a over", 11),
                ("members a: wins if a over", 9), ("members a; if a over", 11), ("members a; wins a over", 16),
                ("members a; wins if", 18), ("members a; wins if ", 19), ("members a; wins if a over;", 25),
                ("members a; wins if a over b over", 26), ("members a; wins if a over)", 25),
                ("members a; wins if (a over", 26), ("members a; wins if (a over;", 26), ("members a; wins if ()", 20),
                ("members a; wins if a over or", 28), ("members a; wins if or a over", 19), ("members a; wins if not", 22),
                ("members a; wins if a over and or a over", 30), ("members a; wins if 1", 20), ("members a; wins if 1 < ", 23),
                ("members a; wins if 1 < 2 < 3", 25), ("members a; wins if 1 < a", 23), ("members a; wins if 1 <= 2", 22),
                ("members a; wins if 01 < 2", 19), ("members a; wins if 1234567 < 2", 19), ("members a; wins if 00 < 2", 19),
                ("members a; wins if a up", 21), ("members a; wins if a a", 21), ("members a; wins if none", 19),
                ("members a; chamber", 18), ("members a; chamber d", 20), ("members a; chamber d a over;", 21),
                ("members a; chamber d: a over wins", 29), ("members a; chamber d: ; wins if a over", 22),
                ("members a; chamber d: a over; if a over", 30), ("members a; chamber d: a over);", 28),
                ("Members a; wins if a over", 0), ("members A; wins if a over", 8), ("members a1, 1a; wins if a over", 12),
                ("members aaaaaaaaaaaaa; wins if a over", 8), ("members a; wins if a over.", 25), ("members a,, b;", 10),
                ("members a; wins if a over and", 29), ("members a; wins if (1) < 2", 21), ("members a; wins if a Over", 21)):
            self.wrong(text, "BadText", place)
        self.check("members aaaaaaaaaaaa; wins if aaaaaaaaaaaa over")
        self.check("members a; wins if 123456 < 0")

    def test_blanks_only_part_words(self):
        for text in ("members a,b,c;wins if not a under and over>1", "  members  a , b ,c ; wins  if not a under and over> 1 "):
            self.same(read_council(text), K)

    def test_thirty_open_and_one_more(self):
        for part, behind in (("not ", ""), ("(", ")")):
            self.check(wins(part * 30 + "a over" + behind * 30))
            self.wrong(wins(part * 31 + "a over" + behind * 31), "TooDeep", 25 + 30 * len(part))
            self.wrong(wins(part * 31), "TooDeep", 25 + 30 * len(part))
            self.wrong(wins(part * 30), "BadText", 25 + 30 * len(part))
            self.check(wins(part * 30 + "a over" + behind * 30 + " or " + part * 30 + "b over" + behind * 30))
            self.check(wins("a over", "a", "chamber d: " + part * 30 + "a over" + behind * 30 + "; ") + " or "
                       + part * 30 + "d over" + behind * 30)
            self.check(wins("(" + part * 29 + "a over" + behind * 29 + " and " + part * 29 + "a over" + behind * 29 + ")"))
            self.wrong(wins("(" + part * 29 + "a over" + behind * 29 + " and " + part * 30 + "a over"), "TooDeep",
                       25 + 1 + 29 * len(part + behind) + 11 + 29 * len(part))
        self.check(wins("(not " * 15 + "a over" + ")" * 15))
        self.wrong(wins("(not " * 15 + "(a over)"), "TooDeep", 25 + 75)
        self.wrong(wins("(not " * 15 + "not a over"), "TooDeep", 25 + 75)
        self.check(wins("(not " * 15 + "over of (a) > over of (b)" + ")" * 15))
        self.check(wins("not " * 29 + "(a over) and " + "not " * 30 + "a over"))
        self.wrong(wins("not " * 29 + "(not a over) and a over"), "TooDeep", 25 + 117)

    def test_councils_by_chance(self):
        for text in some_councils(300):
            self.assertEqual(len(self.check(text)), 3)

    def test_texts_cut_at_each_sign(self):
        for text in (KTEXT, DTEXT) + tuple(some_councils(12, 2)):
            for end in range(len(text) + 1):
                self.check(text[:end])

    def test_spoilt_texts(self):
        chance = random.Random(57)
        for text in (KTEXT, DTEXT) + tuple(some_councils(60, 2)):
            for other in spoilt(chance, text, LETTERS + "0123456789 ;,:()<>=A.", 40):
                self.check(other)

    def test_words_left_out_put_in_and_changed(self):
        chance = random.Random(58)
        for text in (KTEXT, DTEXT) + tuple(some_councils(60, 2)):
            words = print_council(read_council(text)).replace(",", " ,").replace(";", " ;").replace(")", " )").split(" ")
            for _ in range(40):
                at = chance.randrange(len(words) + 1)
                new = [chance.choice(WORDS)] * chance.randrange(2)
                self.check(" ".join(words[:at] + new + words[at + chance.randrange(2):]))

    def test_texts_of_many_signs(self):
        text = "members a;wins if " + "a over or " * 1997
        for many in (19999, 20000):
            filled = text + "a over".rjust(many - len(text))
            self.assertEqual(len(filled), many)
            self.assertEqual(len(read_council(filled)[2][1]), 1998)
        self.refused("BadText", 20000, read_council, text + "a over".rjust(20001 - len(text)))
        self.wrong(" " * 20000, "BadText", 20000)
        self.wrong("a" * 20000, "BadText", 0)

    def test_what_is_no_text(self):
        texts_refused(self, read_council, ())
        self.refused("BadText", 7, read_council, "wrong a\n")


class WinsOfCouncils(CouncilCase):

    def check_wins(self, text):
        council = read_council(text)
        names = council[0]
        rows = every_row(len(names))
        told = [true_told(council, council[2], row) for row in rows]
        for row, wanted in list(zip(rows, told))[::1 if len(names) < 5 else 7]:
            self.same(true_at(council, row), wanted)
        self.same(table_of(council), (len(names), tuple(row for row, won in zip(rows, told) if won and any(row))))

    def test_examples(self):
        self.same(table_of(K), (3, ((0, 1, 1), (1, -1, 1), (1, 0, 1), (1, 1, -1), (1, 1, 0), (1, 1, 1))))
        d = read_council(DTEXT)
        self.same(true_at(d, (1, -1, -1)), False)
        self.same(true_at(d, (1, -1, 0)), True)
        self.same(true_at(row=(1, 1, 0), council=d), True)
        level = read_council(DTEXT.replace("a over and not d under", "d level"))
        self.same(true_at(level, (1, 1, 0)), True)
        under = read_council(DTEXT.replace("a over and not d under", "d under"))
        for row in every_row(3):
            self.same(true_at(under, row), row[1:] == (-1, -1))
        e = read_council("members a, b; chamber d: over > 0; wins if d level")
        self.same(true_at(e, (1, -1)), True)
        self.same(true_at(e, (1, 0)), False)
        self.same(table_of(council=e), (2, ((-1, 1), (1, -1))))

    def test_councils_by_chance(self):
        for text in some_councils(150):
            if not text.startswith("members") or len(text) > 3000:
                continue
            self.check_wins(text)

    def test_small_formulas(self):
        for formula in ("a over", "a level", "a under", "not a over", "1 < 2", "2 < 1", "1 = 1", "over = 0", "under < over",
                        "level > 1", "over of (a 2, b 3) > 2", "over of (a 0, b 1) = 0", "over of (a 999999) < 999999",
                        "a over and b over", "a over or b over", "not (a over or b over)", "over of (b 2, a 1) = 2"):
            self.check_wins(wins(formula, "a, b"))

    def test_the_level_row(self):
        council = read_council(wins("a level or a over", "a"))
        self.same(true_at(council, (0,)), True)
        self.same(table_of(council), (1, ((1,),)))
        for n in range(1, 7):
            council = read_council(wins("0 = 0", ", ".join(LETTERS[:n])))
            self.same(true_at(council, level_of(n)), True)
            self.same(table_of(council), (n, tuple(row for row in every_row(n) if any(row))))
            self.same(table_of(read_council(wins("0 = 1", ", ".join(LETTERS[:n])))), (n, ()))
            self.assertTrue(is_table(table_of(council)))

    def test_chambers_at_a_row_and_its_turned_one(self):
        for formula in ("over > 0", "a over or a under", "a over", "not a over", "level > 0", "0 = 0", "0 = 1", "over > under"):
            for stand in ("over", "level", "under"):
                self.check_wins(wins(f"d {stand}", "a, b", f"chamber d: {formula}; "))
                self.check_wins(wins(f"e {stand}", "a, b", f"chamber d: {formula}; chamber e: not d over and a level; "))
                self.check_wins(wins(f"{stand} of (d 2, a) > 1", "a, b", f"chamber d: {formula}; "))

    def test_rows_are_asked(self):
        for n in range(1, 7):
            council = read_council(wins("a over", ", ".join(LETTERS[:n])))
            rows_refused(self, true_at, n, (council,))

    def test_large_councils_are_told_quickly(self):
        begun = time.perf_counter()
        six = "members a,b,c,d,e,f;"
        texts = [six + "wins if " + " or ".join(f"over<{at % 10}" for at in range(1900)),
                 six + "wins if " + " and ".join(f"over of(a {at})<2" for at in range(900)),
                 six + "wins if " + " or ".join(f"over of(a,b,c,d,e,f {at})<over of(a,b,c,d,e,f {at})" for at in range(380)),
                 six + "chamber g:over>1;chamber h:under of(g,a)<2;wins if " + " or ".join(
                     ["a over and(b over or not h level)"] * 500)]
        for text in texts:
            self.assertLess(len(text), 20000)
            for _ in range(3):
                council = read_council(text)
                table = table_of(council)
                for row in every_row(6)[::100]:
                    self.assertIs(true_at(council, row), row in table[1] or not any(row) and true_at(council, row))
                self.same(print_council(council)[:19], "members a, b, c, d,")
        self.assertLess(time.perf_counter() - begun, 30)


class PrintCouncil(CouncilCase):

    def test_examples(self):
        self.same(print_council(K), "members a, b, c; wins if not a under and 1 < over")
        self.same(print_council(council=read_council(DTEXT)),
                  "members a, b, c; chamber d: 1 < over of (b, c); wins if a over and not d under")
        formula = ("and", (("or", (("is", 0, 1), ("is", 1, 1))), ("not", ("and", (("is", 0, 0), ("is", 1, 0))))))
        text = "(a over or b over) and not (a level and b level)"
        self.same(read_council(wins(text, "a, b"))[2], formula)
        self.same(print_council(read_council(wins(text, "a, b"))), wins(text, "a, b"))

    def told(self, text, wanted, members="a, b, c"):
        self.same(print_council(read_council(wins(text, members))), wins(wanted, members))

    def test_brackets_that_are_needed_and_ones_that_are_not(self):
        for text in ("(a over or b over) and c over", "(a over and b over) and c over", "a over and b over or c over",
                     "a over or (b over or c over)", "not (a over or b over)", "not (a over and b over)", "not not a over",
                     "not a over or b over", "a over and not b over", "not (not a over and b over)", "a over or b over"):
            self.told(text, text)
        for text, wanted in (("(a over)", "a over"), ("((a over or b over))", "a over or b over"),
                             ("(a over and b over) or c over", "a over and b over or c over"),
                             ("not (a over)", "not a over"), ("(not a over)", "not a over"),
                             ("a over and (not b over)", "a over and not b over"), ("(1 < 2) and (1 = 2)", "1 < 2 and 1 = 2"),
                             ("not (1 < 2)", "not 1 < 2"), ("(a over) or (b over)", "a over or b over")):
            self.told(text, wanted)

    def test_counts_and_weights(self):
        for text, wanted in (("2 > 1", "1 < 2"), ("over > under", "under < over"), ("over of (a 1, b) = 1", "over of (a, b) = 1"),
                             ("over of (a, b, c) = 1", "over = 1"), ("over of (a, b 1, c 1) = 1", "over = 1"),
                             ("over of (a, c, b) = 1", "over of (a, c, b) = 1"), ("level of (a 0) = 000000", None),
                             ("over of (a, b, c 2) = 1", "over of (a, b, c 2) = 1"), ("under of (a 0) < 0", "under of (a 0) < 0")):
            if wanted is None:
                self.assertRaises(Refused, read_council, wins(text))
            else:
                self.told(text, wanted)
        self.told("over of (a) = 1", "over = 1", "a")
        text = wins("over of (a, d) = over of (d)", "a", "chamber d: over = 1; ")
        self.same(print_council(read_council(text)), text)

    def test_there_and_back(self):
        for text in some_councils(300) + some_councils(60, 5):
            if len(text) > 20000:
                continue
            council = read_council(text)
            told = print_council(council)
            self.same(told, council_text(council))
            if len(told) <= 20000:
                self.same(read_council(told), council)
                self.same(print_council(read_council(told)), told)

    def test_deep_formulas(self):
        for text in ("not " * 30 + "a over", "not (a over or " * 15 + "b over" + ")" * 15,
                     "a over and (b over or c over and (" * 15 + "a over and b over" + "))" * 15):
            council = read_council(wins(text))
            self.same(formula_text(council[2], council[0], 3), text)
            self.same(print_council(council), wins(text))
            self.same(read_council(print_council(council)), council)
            self.same(true_at(council, (1, 0, -1)), true_told(council, council[2], (1, 0, -1)))


if __name__ == "__main__":
    unittest.main()
