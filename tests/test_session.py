"""The rows of a session [62], [63], their examples [64], and the session [65]."""

import random
import time
import unittest

from common import (Case, LONG, NO_MANY, NO_TEXTS, ODD, every_row, full_ladders, level_of, motions_refused, order_of,
                    spoilt, tight_ladders)
from councils import council_by_chance, council_plain
from readers import motion_plain, row_plain
from roundorlist.counts import count
from roundorlist.errors import Refused
from roundorlist.rounds import goes_round
from roundorlist.ruletexts import read_council, table_of
from roundorlist.session import Session
from roundorlist.sittings import Sitting
from roundorlist.walking import can_lead

BIG = 10 ** 999
KTEXT = "members a, b, c; wins if not a under and over > 1"
ROUNDS = "members a, b, c; wins if over > under"
NEVER = "members a, b; wins if 0 = 1"
FIRST_WORDS = ("put", "step", "plan", "back", "again", "stands", "minutes", "scale", "row", "led", "round", "ladders",
               "first", "heads", "table")
WITH_REST = ("put", "plan", "row", "led")
EXAMPLES = (
    ("row 0++", "wins"), ("row +--", "loses"), ("led +--", "yes"), ("led 0+-", "no"), ("round", "never"),
    ("ladders", "2"), ("first", "a up, b up"), ("heads", "a up"), ("table", "0++ +-+ +0+ ++- ++0 +++"),
    ("again", "refused: NothingAgain 0"), ("put 0 1 1", "wins"), ("put 1 0 0", "loses"), ("stands", "0 1 1"),
    ("minutes", "2"), ("back", "ok"), ("minutes", "1"), ("plan 1 0 0", "led"), ("scale", "1"), ("stands", "0 420 420"),
    ("step", "wins"), ("minutes", "2"), ("back", "ok"), ("step", "refused: NoPlan 0"),
    ("plan 0 420 0", "refused: Barred 0"), ("back", "ok"), ("back", "refused: NothingBack 0"), ("stands", "0 0 0"),
    ("put 1 2", "refused: BadText 7"), ("put 1  2 3", "refused: BadText 6"), ("put", "refused: BadText 3"),
    ("row ++", "refused: BadText 6"), ("step now", "refused: BadText 4"), ("jump", "refused: BadText 0"),
    (7, "refused: BadText -1"),
)


def told(sitting):
    return (sitting.standing(), sitting.first(), sitting.minutes(), sitting.scale())


def pairs_plain(names, pairs):
    words = [f"{names[member]} {'up' if sign == 1 else 'down'}" for member, sign in pairs]
    return ", ".join(words) or "none"


def text_plain(text):
    """What BadText tells of a row of a session ahead of what its words tell, or None."""
    if type(text) is not str:
        return -1
    wrong = [place for place, sign in enumerate(text) if place == 20000 or not 32 <= ord(sign) <= 126]
    return wrong[0] if wrong else None


class Plain:
    """A session that asks a Sitting of its own, and tells of the table by the other functions of the package."""

    def __init__(self, text, motion):
        self.names = council_plain(text)[0]
        self.table = table_of(read_council(text))
        self.sitting = Sitting(self.table, motion)
        self.plans = 0

    def row(self, text):
        wrong = text_plain(text)
        if wrong is not None:
            return f"refused: BadText {wrong}"
        word, blank, rest = text.partition(" ")
        if word not in FIRST_WORDS:
            return "refused: BadText 0"
        if word not in WITH_REST:
            return f"refused: BadText {len(word)}" if blank else self.done(word)
        if not blank:
            return f"refused: BadText {len(text)}"
        read = (motion_plain if word in ("put", "plan") else row_plain)(self.table[0], rest)
        if read[0] == "BadText":
            return f"refused: BadText {len(word) + 1 + read[1]}"
        return self.done(word, read)

    def done(self, word, *read):
        try:
            return getattr(self, "do_" + word)(*read)
        except Refused as refusal:
            return f"refused: {type(refusal).__name__} {refusal.what}"

    def do_put(self, motion):
        return "wins" if self.sitting.put(motion) else "loses"

    def do_plan(self, aim):
        self.sitting.plan(aim)
        self.plans += 1
        return "led"

    def do_step(self):
        return "wins" if self.sitting.step() else "loses"

    def do_back(self):
        return self.sitting.back() or "ok"

    def do_again(self):
        return self.sitting.again() or "ok"

    def do_stands(self):
        return " ".join(str(height) for height in self.sitting.standing())

    def do_minutes(self):
        return str(len(self.sitting.minutes()))

    def do_scale(self):
        return str(self.plans)

    def do_row(self, row):
        return "wins" if row in self.table[1] else "loses"

    def do_led(self, row):
        return "yes" if can_lead(self.table, row) else "no"

    def do_round(self):
        return "goes round" if goes_round(self.table) else "never"

    def do_ladders(self):
        return str(len(tight_ladders(self.table))) if self.table[0] < 4 else str(count(self.table))

    def do_first(self):
        ladders = tight_ladders(self.table) + [()]
        return pairs_plain(self.names, ladders[0])

    def do_heads(self):
        n, rows = self.table
        return pairs_plain(self.names, [(member, sign) for member in range(n) for sign in (-1, 1)
                                        if -sign not in [row[member] for row in rows]])

    def do_table(self):
        return " ".join("".join("-0+"[sign + 1] for sign in row) for row in self.table[1]) or "none"


class SessionCase(Case):

    def both(self, text, motion):
        return Session(text, motion), Plain(text, motion)

    def check(self, session, plain, text):
        """A row is answered as the plain session does, and changes what it changes there."""
        ahead = told(session.sitting)
        answer = session.row(text)
        self.same(answer, plain.row(text))
        self.same(told(session.sitting), told(plain.sitting))
        if answer.startswith("refused: "):
            self.same(told(session.sitting), ahead)
        return answer


class Sessions(SessionCase):

    def test_examples(self):
        session, plain = self.both(KTEXT, (0, 0, 0))
        for text, answer in EXAMPLES:
            self.same(self.check(session, plain, text), answer)

    def test_examples_asked_of_a_session_alone(self):
        session = Session(text=KTEXT, motion=(0, 0, 0))
        for text, answer in EXAMPLES:
            self.same(session.row(text=text), answer)

    def test_attributes(self):
        session = Session(KTEXT, (0, 1, 2))
        self.same(session.council, read_council(KTEXT))
        self.same(session.table, table_of(read_council(KTEXT)))
        self.assertIs(type(session.sitting), Sitting)
        self.same(told(session.sitting), ((0, 1, 2), (0, 1, 2), (), 1))
        session.sitting.put((0, 2, 3))
        self.same((session.row("stands"), session.row("minutes")), ("0 2 3", "1"))
        session.sitting.plan((0, 3, 4))
        self.same((session.row("scale"), session.row("step"), session.row("stands")), ("1", "wins", "0 1260 1680"))

    def test_what_is_asked_in_order(self):
        for thing, what in NO_TEXTS:
            self.refused("BadText", what, Session, thing, (0,))
            self.refused("BadText", what, Session, thing, None)
        for text, name, place in (("members a, a; wins if a over", "Twice", 11), ("members a; wins if b over", "NoName", 19),
                                  ("members a; wins if a", "BadText", 20), ("members a, b, c, d, e, f, g", "TooMany", 26),
                                  ("members a; wins if " + "not " * 31, "TooDeep", 139)):
            self.refused(name, place, Session, text, None)
            self.refused(name, place, Session, text, (0,))
        for n in range(1, 7):
            motions_refused(self, Session, n, (f"members {', '.join('abcdef'[:n])}; wins if a over",))

    def test_rows_with_too_much_and_too_little(self):
        for council, motion in ((KTEXT, (0, 0, 0)), (ROUNDS, (0, 1, 2)), (NEVER, (5, -5))):
            session, plain = self.both(council, motion)
            n = len(motion)
            for word in FIRST_WORDS:
                good = {"put": "7 " * n, "plan": "0 " * n, "row": "+" * n, "led": "-" * n}.get(word, "").rstrip()
                row = f"{word} {good}".rstrip()
                for text in (row, row + " ", " " + row, word, word + " ", word + "  ", row.replace(" ", "  "), row + " x",
                             row + "x", row + " 0", row + "+", word.title(), word.upper(), word + "s", word[:-1], "x" + row,
                             row + ";", row + "\n", row + " " * 19980, row[:-1], row + " " + row, word + "," + good):
                    self.check(session, plain, text)

    def test_rows_cut_at_each_sign_and_spoilt(self):
        chance = random.Random(63)
        session, plain = self.both(ROUNDS, (0, 0, 0))
        for row in ("put 12 -3 400", "plan 100 0 -7", "row +0-", "led 0+-", "minutes", "step", "round", "table", "again"):
            for text in [row[:end] for end in range(len(row))] + spoilt(chance, row, " -+0197aput\x7f", 80):
                self.check(session, plain, text)

    def test_what_is_no_text(self):
        session, plain = self.both(KTEXT, (0, 0, 0))
        for thing in ODD + NO_MANY + (LONG,) + tuple(thing for thing, _ in NO_TEXTS):
            self.check(session, plain, thing)
        self.same(session.row("x" * 20000), "refused: BadText 0")
        self.same(session.row("x" * 20001), "refused: BadText 20000")
        self.same(session.row("put\n"), "refused: BadText 3")
        self.same(session.row("jump\x1f"), "refused: BadText 4")
        self.same(session.row(""), "refused: BadText 0")
        self.same(session.row(" "), "refused: BadText 0")

    def test_pairs(self):
        for text, first, heads in (
                ("members a; wins if 0 = 1", "none", "a down, a up"), ("members a; wins if 0 = 0", "none", "none"),
                ("members a; wins if a under", "a down", "a down"), (NEVER, "none", "a down, a up, b down, b up"),
                ("members x, y; wins if y over", "y up", "y up"), (ROUNDS, "none", "none"),
                ("members x, y; wins if x level and y under", "y down", "x down, x up, y down")):
            session = Session(text, level_of(len(read_council(text)[0])))
            self.same((session.row("first"), session.row("heads")), (first, heads))
            self.same((session.row("first"), session.row("heads")), (first, heads))

    def test_answers_of_the_table(self):
        for text, answers in ((ROUNDS, ("goes round", "0")), (NEVER, ("never", "1")), (KTEXT, ("never", "2"))):
            session = Session(text, level_of(len(read_council(text)[0])))
            self.same((session.row("round"), session.row("ladders")), answers)
        self.same(Session(NEVER, (0, 0)).row("table"), "none")

    def test_twenty_plans_and_no_more(self):
        session, plain = self.both(ROUNDS, (0, 0, 0))
        for many in range(20):
            self.same(self.check(session, plain, "scale"), str(many))
            self.same(self.check(session, plain, "plan 0 0 0"), "led")
        self.same(self.check(session, plain, "plan 0 0 0"), "refused: Full 20")
        for text in ("step", "step", "step", "step", "back", "step", "plan 1 1 1", "scale", "again", "put 7 7 7", "stands"):
            self.check(session, plain, text)
        session = Session(KTEXT, (0, 0, 0))
        for many in range(20):
            self.same(session.row(f"plan 0 {many + 1} 1"), "led")
            self.same(session.row("back"), "refused: NothingBack 0")
        self.same(session.row("plan 0 0 0"), "refused: Barred 0")
        self.same(session.row("plan 0 9 9"), "refused: Full 20")

    def test_heights_of_many_figures(self):
        session, plain = self.both(KTEXT, (-BIG, BIG, 0))
        self.same(self.check(session, plain, "stands"), f"-1{'0' * 999} 1{'0' * 999} 0")
        for text in (f"put 5 {'9' * 400} 1", f"put 5 {'9' * 401} 1", f"put -{'9' * 400} 0 1", f"plan 0 {'9' * 400} 1",
                     f"plan 0 0 -{'9' * 401}", "put 0 0 -0", "put 00 0 0", "stands"):
            self.check(session, plain, text)

    def test_two_sessions_have_nothing_in_common(self):
        one, two = Session(KTEXT, (0, 0, 0)), Session(KTEXT, (0, 0, 0))
        one.row("put 0 1 1")
        one.row("plan 1 0 0")
        self.same((two.row("stands"), two.row("minutes"), two.row("scale"), two.row("step")),
                  ("0 0 0", "0", "0", "refused: NoPlan 0"))

    def test_beside_a_sitting_by_chance(self):
        chance = random.Random(65)
        for at in range(60):
            n = 1 + at % 4
            session, plain = self.both(council_by_chance(chance, n, at % 3, 2), level_of(n))
            rows = every_row(n)
            for _ in range(60):
                word = chance.choice(FIRST_WORDS + ("put", "put", "plan", "step", "step", "back", "again"))
                near = tuple(height + chance.randrange(-1, 2) for height in plain.sitting.standing())
                rest = {"put": " ".join(map(str, near)), "plan": " ".join(map(str, near)),
                        "row": "".join("-0+"[sign + 1] for sign in chance.choice(rows)),
                        "led": "".join("-0+"[sign + 1] for sign in order_of(near, level_of(n)))}.get(word, "")
                self.check(session, plain, f"{word} {rest}".rstrip())

    def test_names_of_all_errors_that_a_row_can_tell(self):
        session = Session(KTEXT, (0, 0, 0))
        found = {session.row(text).split(" ")[1] for text in ("x", "back", "again", "step", "plan 0 0 0")}
        self.assertEqual(found, {"BadText", "NothingBack", "NothingAgain", "NoPlan", "Barred"})


class Quick(SessionCase):

    def test_large_sessions_are_told_quickly(self):
        begun = time.perf_counter()
        ladder = full_ladders(6)[777]
        names = "abcdef"
        words = [f"{names[member]} {'over' if sign == 1 else 'under'}" for member, sign in ladder]
        parts = [" and ".join([f"{names[member]} level" for member, _ in ladder[:at]] + [words[at]]) for at in range(6)]
        decided = "members a, b, c, d, e, f; wins if " + " or ".join(parts)
        for text in (decided, "members a, b, c, d, e, f; wins if 0 = 0", "members a, b, c, d, e, f; wins if over > under"):
            session = Session(text, (0,) * 6)
            rows = ["".join("-0+"[sign + 1] for sign in row) for row in every_row(6)]
            for row in rows * 3:
                self.assertIn(session.row("row " + row) + session.row("led " + row),
                              ("winsyes", "losesyes", "losesno"))
            for _ in range(200):
                for word in ("round", "ladders", "first", "heads", "table", "stands", "minutes", "scale"):
                    self.assertNotIn("refused", session.row(word))
            for at in range(3000):
                session.row(f"put {at} {-at} 0 7 {at % 5} {10 ** 300}")
            for _ in range(3000):
                self.same(session.row("minutes"), "3000")
        self.assertLess(time.perf_counter() - begun, 40)


if __name__ == "__main__":
    unittest.main()
