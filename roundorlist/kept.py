"""Kept tables: rows are put in and struck one by one, undone and redone, and asked much in between."""

from roundorlist.errors import HasRow, Level, NoRow, NothingAgain, NothingBack
from roundorlist.rounds import round_of
from roundorlist.rows import ask_many, level, made_row
from roundorlist.tallies import Tally

MOST_UNDONE = 100


class Kept:
    """A table of n members, without rows at first."""

    def __init__(self, n):
        ask_many(n)
        self._n = n
        self._rows = {}
        self._tally = Tally(n)
        # Of each add and strike the row, and whether it was put in; the last one last.
        self._done = []
        self._undone = []
        # What was told since the last change, None if it was not asked.
        self._told_table = None
        self._told_round = None

    def _change(self, row, comes):
        """Put the row in if it comes, otherwise take it out."""
        if comes:
            self._rows[row] = True
            self._tally.change(row, 1)
        else:
            del self._rows[row]
            self._tally.change(row, -1)
        self._told_table = None
        self._told_round = None

    def _grant(self, row, comes):
        """Make a change that can be undone, and behind which nothing can be redone."""
        self._change(row, comes)
        self._done.append((row, comes))
        if len(self._done) > MOST_UNDONE:
            del self._done[0]
        self._undone = []

    def add(self, row):
        """Put a row into the table."""
        made_row(self._n, row)
        if row == level(self._n):
            raise Level(0)
        if row in self._rows:
            raise HasRow(0)
        self._grant(row, True)

    def strike(self, row):
        """Take a row out of the table."""
        made_row(self._n, row)
        if row not in self._rows:
            raise NoRow(0)
        self._grant(row, False)

    def undo(self):
        """Undo the last add or strike that is not undone."""
        if len(self._done) == 0:
            raise NothingBack(0)
        row, came = self._done.pop()
        self._change(row, not came)
        self._undone.append((row, came))

    def redo(self):
        """Do again what was undone last."""
        if len(self._undone) == 0:
            raise NothingAgain(0)
        row, came = self._undone.pop()
        self._change(row, came)
        self._done.append((row, came))

    def table(self):
        """The table."""
        if self._told_table is None:
            self._told_table = (self._n, tuple(sorted(self._rows)))
        return self._told_table

    def calm(self):
        """Whether the table does not go round."""
        return not self._tally.can_lead(level(self._n))

    def can(self, row):
        """Whether the table can lead to the row."""
        made_row(self._n, row)
        return self._tally.can_lead(row)

    def paper(self):
        """("ladder", ladder) with one that all rows climb, or ("round", way) with a round."""
        word, ladder = self._tally.walk(level(self._n))
        if word == "barred":
            return ("ladder", ladder)
        if self._told_round is None:
            self._told_round = round_of(self.table())
        return ("round", self._told_round)
