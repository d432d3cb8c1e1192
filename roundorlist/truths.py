"""Where the formulas of a council are true, told for several rows at once."""

from roundorlist.rows import SIGNS

# A mark tells an answer for each row: it is a number with one bit for each, that of the first row the highest.


def mark_of(answers):
    """The mark of these answers, at least one."""
    return int("".join(["1" if answer else "0" for answer in answers]), 2)


def answers_of(mark, many):
    """The answers, 1 or 0, that a mark of so many rows tells."""
    figures = f"{mark:b}"
    return [int(figure) for figure in figures.zfill(many)]


class Truths:
    """How members and chambers stand at some rows; these, turned, must be the same rows in the contrary order."""

    def __init__(self, rows):
        self._many = len(rows)
        self._whole = mark_of([True] * self._many)
        # By the number of each member, then of each chamber, and by each stand: the mark, and the answers of it.
        self._marks = []
        self._answers = []
        for signs in zip(*rows):
            self._seat({stand: mark_of([sign == stand for sign in signs]) for stand in SIGNS})
        # The same voters are often counted again.
        self._counts = {}

    def _seat(self, marks):
        """Keep who stands as these marks tell, under the next number."""
        self._marks.append(marks)
        self._answers.append({stand: answers_of(marks[stand], self._many) for stand in SIGNS})

    def seat_chamber(self, formula):
        """Keep a chamber with this formula, under the next number."""
        here = self.mark(formula)
        there = mark_of(answers_of(here, self._many)[::-1])
        over = here & (self._whole ^ there)
        under = there & (self._whole ^ here)
        self._seat({-1: under, 0: self._whole ^ over ^ under, 1: over})

    def mark(self, formula):
        """The mark of the rows at which the formula is true."""
        kind = formula[0]
        if kind == "is":
            return self._marks[formula[1]][formula[2]]
        if kind == "not":
            return self._whole ^ self.mark(formula[1])
        if kind in ("less", "same"):
            return self._compared(formula)
        mark = self.mark(formula[1][0])
        for part in formula[1][1:]:
            if kind == "and":
                mark = mark & self.mark(part)
            else:
                mark = mark | self.mark(part)
        return mark

    def answers(self, formula):
        """For each row 1 if the formula is true at it, otherwise 0."""
        return answers_of(self.mark(formula), self._many)

    def _compared(self, formula):
        """The mark of the rows at which a comparison of two counts is true."""
        kind, one, two = formula
        pairs = list(zip(self._numbers(one), self._numbers(two)))
        if kind == "less":
            return mark_of([here < there for here, there in pairs])
        return mark_of([here == there for here, there in pairs])

    def _numbers(self, count):
        """What the count comes to at each row."""
        if count[0] == "number":
            return [count[1]] * self._many
        if count not in self._counts:
            self._counts[count] = self._votes(count[1], count[2])
        return self._counts[count]

    def _votes(self, stand, voters):
        """The sum of the weights of those voters who stand so, at each row."""
        sums = [0] * self._many
        for who, weight in voters:
            sums = [total + weight * answer for total, answer in zip(sums, self._answers[who][stand])]
        return sums
