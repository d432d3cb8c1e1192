"""Sessions: a council told by a text sits, and is asked by rows of words."""

from roundorlist.counts import count, heads
from roundorlist.errors import BadText, Refused
from roundorlist.rounds import ladder_of
from roundorlist.rows import level
from roundorlist.ruletexts import read_council, table_of
from roundorlist.sittings import Sitting
from roundorlist.tallies import tally_of
from roundorlist.texts import motion_from, motion_text, pairs_text, print_lot, row_from
from roundorlist.words import ask_text

MOTION_WORDS = ("put", "plan")
ROW_WORDS = ("row", "led")
SITTING_WORDS = ("step", "back", "again", "stands", "minutes", "scale")
TABLE_WORDS = ("round", "ladders", "first", "heads", "table")


class Session:
    """A council read from its text, and a sitting of its table that begins with the motion."""

    def __init__(self, text, motion):
        self.council = read_council(text)
        self.table = table_of(self.council)
        self.sitting = Sitting(self.table, motion)
        n, rows = self.table
        self._n = n
        self._tally = tally_of(n, rows)
        self._wins = {row: True for row in rows}
        # The table stays as it is, so what was asked of it once is known.
        self._known = {}

    def row(self, text):
        """Do or ask what a row of words tells, and answer in words."""
        try:
            return self._answer(text)
        except Refused as refusal:
            return f"refused: {refusal.kind} {refusal.what}"

    def _answer(self, text):
        """The answer to a row that is not refused."""
        ask_text(text)
        word, blank, rest = text.partition(" ")
        if word in MOTION_WORDS or word in ROW_WORDS:
            if blank == "":
                raise BadText(len(text))
            return self._with_rest(word, rest, len(word) + 1)
        if word not in SITTING_WORDS and word not in TABLE_WORDS:
            raise BadText(0)
        if blank != "":
            raise BadText(len(word))
        if word in SITTING_WORDS:
            return self._of_sitting(word)
        return self._of_table(word)

    def _with_rest(self, word, rest, at):
        """The answer to a word with a motion or a row behind it, which begins at this place."""
        if word in MOTION_WORDS:
            motion = motion_from(self._n, rest, at)
            if word == "plan":
                self.sitting.plan(motion)
                return "led"
            return "wins" if self.sitting.put(motion) else "loses"
        row = row_from(self._n, rest, at)
        if word == "row":
            return "wins" if row in self._wins else "loses"
        return "yes" if self._tally.can_lead(row) else "no"

    def _of_sitting(self, word):
        """The answer to a word that asks the sitting, or does something there."""
        if word == "stands":
            return motion_text(self.sitting.standing())
        if word == "minutes":
            return str(len(self.sitting.minutes()))
        if word == "scale":
            return str(self.sitting.plans)
        if word == "step":
            self.sitting.step()
            return "wins"
        if word == "back":
            self.sitting.back()
        else:
            self.sitting.again()
        return "ok"

    def _of_table(self, word):
        """The answer to a word that asks the table."""
        if word not in self._known:
            self._known[word] = self._told(word)
        return self._known[word]

    def _told(self, word):
        """What the table tells to the word."""
        names, _, _ = self.council
        if word == "round":
            return "goes round" if self._tally.can_lead(level(self._n)) else "never"
        if word == "ladders":
            return str(count(self.table))
        if word == "heads":
            return pairs_text(names, heads(self.table))
        if word == "table":
            return print_lot(self.table)
        ladder = ladder_of(self.table)
        return pairs_text(names, () if ladder is None else ladder)
