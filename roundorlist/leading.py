"""Rows that lead to a row, few of them, and the ways that they make."""

from roundorlist.errors import Barred, NotLed, TooMany
from roundorlist.ladders import stand_on
from roundorlist.lots import made_lot
from roundorlist.rows import made_row, made_rows
from roundorlist.walking import walk

MOST_FOR_FEWEST = 4

# The marks of rows are one number: of each place one bit if a row has 1 there, and one if a row has -1.
MARKS = {0: 0, 1: 1, -1: 2}
BOTH_MARKS = 3


def marks_of(row):
    """The marks of one row, its first place in the lowest bits."""
    marks = 0
    for place, sign in enumerate(row):
        marks = marks | (MARKS[sign] << (2 * place))
    return marks


def marks_lead(marks, row):
    """Whether rows with just these marks lead to the row."""
    for place, sign in enumerate(row):
        here = (marks >> (2 * place)) & BOTH_MARKS
        if sign == 0 and here not in (0, BOTH_MARKS):
            return False
        if sign != 0 and (here & MARKS[sign]) == 0:
            return False
    return True


def leads(n, rows, row):
    """Whether the rows lead to the row."""
    made_rows(n, rows)
    made_row(n, row)
    marks = 0
    for each in rows:
        marks = marks | marks_of(each)
    return marks_lead(marks, row)


def first_with(rows, place, sign):
    """The first of the rows that has the sign at the place, None if there is none."""
    for row in rows:
        if row[place] == sign:
            return row
    return None


def lone_sign(rows, row):
    """A place at which the row has 0 and the rows have just one of 1 and -1, with this one; None if there is none."""
    for place, wanted in enumerate(row):
        signs = [each[place] for each in rows]
        if wanted == 0 and (1 in signs) != (-1 in signs):
            return (place, 1 if 1 in signs else -1)
    return None


def picked_for(left, row):
    """For each place at which the row has not 0 one of the rows left, at most; if it is level, any one."""
    picked = []
    for place, sign in enumerate(row):
        if sign != 0 and first_with(picked, place, sign) is None:
            picked.append(first_with(left, place, sign))
    if len(picked) == 0:
        picked.append(left[0])
    return picked


def few(lot, row):
    """At most n rows of the lot that lead to the row, n + 1 if it is level; None if the lot cannot."""
    word, ladder = walk(lot, row)
    if word == "barred":
        return None
    # What is left behind a walk that led has the row's sign at each place, and both signs or
    # none where the row has 0. A place that has got both keeps them, so each place costs one row at most.
    left = [each for each in lot[1] if stand_on(ladder, each) == 0]
    picked = picked_for(left, row)
    for _ in row:
        lone = lone_sign(picked, row)
        if lone is not None:
            place, sign = lone
            picked.append(first_with(left, place, -sign))
    return tuple(sorted(picked))


def marks_behind(newest, steps, reached):
    """All marks, not reached ahead, that one step makes of the newest ones; from now on they are reached."""
    found = []
    for marks in newest:
        for step in steps:
            together = marks | step
            if together not in reached:
                reached[together] = True
                found.append(together)
    return found


def least_many(rows, row):
    """The least number of the rows that lead to the row, None if none of them do."""
    steps = [marks_of(each) for each in rows]
    # No marks at all are not reached yet, as one row at least is always needed.
    reached = {}
    newest = [0]
    many = 0
    while len(newest) > 0:
        newest = marks_behind(newest, steps, reached)
        many += 1
        if any([marks_lead(marks, row) for marks in newest]):
            return many
    return None


def fewest(lot, row):
    """The least number of rows of the lot that lead to the row, None if the lot cannot."""
    n, rows = made_lot(lot)
    made_row(n, row)
    if n > MOST_FOR_FEWEST:
        raise TooMany(n)
    return least_many(rows, row)


def sign_between(new, old):
    """1, 0 or -1, as the new height is over the old one, equal or under."""
    if new > old:
        return 1
    if new < old:
        return -1
    return 0


def row_of(new, old):
    """The row of the new motion to the old one."""
    return tuple([sign_between(here, there) for here, there in zip(new, old)])


def heights_by(steps, sign, wide, narrow):
    """The heights of one member: from 0 on by wide at steps with the sign, by narrow at those with the contrary one."""
    height = 0
    heights = [0]
    for step in steps:
        if step == sign:
            height += step * wide
        else:
            height += step * narrow
        heights.append(height)
    return heights


def heights_back(steps):
    """The heights of one member that come back to 0 by the last step that has not 0."""
    wide = len(steps)
    moving = [index for index, step in enumerate(steps) if step != 0]
    if len(moving) == 0:
        return [0] * (wide + 1)
    last = moving[-1]
    return heights_by(steps[:last], -steps[last], wide, 1) + [0] * (wide - last)


def heights_of(steps, sign):
    """The heights of one member in a way with these steps, whose end stands so to its beginning."""
    if sign == 0:
        return heights_back(steps)
    return heights_by(steps, sign, len(steps), 1)


def way_of(n, rows, row):
    """The way whose steps are the rows, in their order, and whose end stands to its beginning as the row tells."""
    if not leads(n, rows, row):
        raise NotLed(0)
    columns = [heights_of([step[place] for step in rows], sign) for place, sign in enumerate(row)]
    return tuple(zip(*columns))


def lead_way(lot, row):
    """A way by the lot, of few steps, whose end stands to its beginning as the row tells."""
    rows = few(lot, row)
    if rows is None:
        raise Barred(0)
    return way_of(lot[0], rows, row)
