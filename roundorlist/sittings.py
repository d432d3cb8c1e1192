"""Sittings: motions are put one behind another, with their minutes and the plans of who puts them."""

from roundorlist.bridges import bridge
from roundorlist.errors import Full, NoPlan, NothingAgain, NothingBack
from roundorlist.leading import row_of
from roundorlist.tables import made_table
from roundorlist.worlds import FINE, fine, made_motion

MOST_PLANS = 20


def fine_puts(puts):
    """The puts, all motions in fine heights."""
    return [(fine(motion), won) for motion, won in puts]


class Sitting:
    """A council with a table, the motion that stands, and what was put ahead."""

    def __init__(self, table, motion):
        n, rows = made_table(table)
        made_motion(n, motion)
        self._n = n
        self._table = table
        self._wins = {row: True for row in rows}
        # Who stood one behind another, the last one stands now; the first one was never put.
        self._stood = [motion]
        self._puts = []
        # What was taken back, the last one last, and of the plan what is left, the next one first.
        self._taken = []
        self._left = ()
        # How many plans were made, and what they made of the heights.
        self.plans = 0
        self._scale = 1

    def _note(self, motion, won):
        """Write a put into the minutes; the motion stands if it won."""
        self._puts.append((motion, won))
        if won:
            self._stood.append(motion)

    def put(self, motion):
        """Put a motion, and tell whether it wins."""
        made_motion(self._n, motion)
        won = row_of(motion, self.standing()) in self._wins
        self._note(motion, won)
        self._taken = []
        self._left = ()
        return won

    def standing(self):
        """The motion that stands."""
        return self._stood[-1]

    def first(self):
        """The motion that stood at the beginning."""
        return self._stood[0]

    def minutes(self):
        """All puts that are not taken back, each with whether it won."""
        return tuple(self._puts)

    def back(self):
        """Take back the last put."""
        if len(self._puts) == 0:
            raise NothingBack(0)
        motion, won = self._puts.pop()
        if won:
            self._stood.pop()
        self._taken.append((motion, won))
        self._left = ()

    def again(self):
        """Put again what was taken back last."""
        if len(self._taken) == 0:
            raise NothingAgain(0)
        motion, won = self._taken.pop()
        self._note(motion, won)
        self._left = ()

    def plan(self, aim):
        """Make a plan from the standing motion to the aim: all heights become fine, and the plan's motions are told."""
        # The bridge asks whether the aim is a motion, and whether the table can lead there.
        way = bridge(self._table, self.standing(), aim)
        if self.plans == MOST_PLANS:
            raise Full(MOST_PLANS)
        self._stood = [fine(motion) for motion in self._stood]
        self._puts = fine_puts(self._puts)
        self._taken = fine_puts(self._taken)
        self.plans += 1
        self._scale = FINE * self._scale
        self._left = way[1:]
        return self._left

    def step(self):
        """Put the next motion of the plan, which wins."""
        if len(self._left) == 0:
            raise NoPlan(0)
        self._note(self._left[0], True)
        self._taken = []
        self._left = self._left[1:]
        return True

    def scale(self):
        """How many times what they were at the beginning the heights are."""
        return self._scale
