"""Tallies: of rows that come and go the walk is told at once, without going over them again."""

from roundorlist.rows import SIGNS


def held_by(row):
    """All sets of members at which the row has 0, each a number with one bit for each member."""
    found = [0]
    for member, sign in enumerate(row):
        if sign == 0:
            found = found + [held | (1 << member) for held in found]
    return found


class Tally:
    """Of each set of members that may stand on a ladder: how many rows are level there, by their signs elsewhere."""

    def __init__(self, n):
        self._n = n
        # Which rows are left behind a ladder depends on its members alone, so 2 ** n sets tell all.
        self._left = [0] * (1 << n)
        self._signs = [{(member, sign): 0 for member in range(n) for sign in SIGNS} for _ in range(1 << n)]

    def change(self, row, by):
        """The row comes if by is 1, and goes if it is -1."""
        for held in held_by(row):
            self._left[held] += by
            signs = self._signs[held]
            for member, sign in enumerate(row):
                signs[(member, sign)] += by

    def _next_rung(self, held, row):
        """The first member that can be put behind the held ones, with its sign, or None."""
        signs = self._signs[held]
        for member in range(self._n):
            if (held >> member) & 1 == 1:
                continue
            for sign in (1, -1):
                if row[member] != sign and signs[(member, -sign)] == 0:
                    return (member, sign)
        return None

    def walk(self, row):
        """The walk of the rows that are here now, by the members in rising order."""
        ladder = ()
        held = 0
        while self._left[held] > 0:
            rung = self._next_rung(held, row)
            if rung is None:
                return ("led", ladder)
            ladder = ladder + (rung,)
            # It was put with the sign that the row has not, so the row falls there if it is not level.
            if row[rung[0]] != 0:
                break
            held = held | (1 << rung[0])
        return ("barred", ladder)

    def can_lead(self, row):
        """Whether the rows that are here now can lead to the row."""
        word, _ = self.walk(row)
        return word == "led"


def tally_of(n, rows):
    """The tally of these rows."""
    tally = Tally(n)
    for row in rows:
        tally.change(row, 1)
    return tally
