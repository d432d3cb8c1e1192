"""Led lots: all rows to which a lot can lead, lots that lead alike, and councils that vote by turns."""

from roundorlist.errors import Barred, TooMany
from roundorlist.leading import few, way_of
from roundorlist.lots import ask_two, lot_of, made_lot
from roundorlist.rows import made_row, rows_of, sums
from roundorlist.walking import walked

MOST_FOR_LED = 4


def ask_few_members(n):
    """Raise TooMany if there are more members than are taken here."""
    if n > MOST_FOR_LED:
        raise TooMany(n)


def led_rows(n, rows):
    """All rows to which a lot of these rows can lead, rising."""
    order = tuple(range(n))
    found = []
    for row in rows_of(n):
        word, _ = walked(rows, row, order)
        if word == "led":
            found.append(row)
    return tuple(found)


def led(lot):
    """The lot of all rows to which the lot can lead."""
    n, rows = made_lot(lot)
    ask_few_members(n)
    return (n, led_rows(n, rows))


def parting(one, two):
    """The least row to which just one of the lots can lead, behind 0 if one can, 1 if two can; or None."""
    ask_two(one, two)
    n = one[0]
    ask_few_members(n)
    by_one = led_rows(n, one[1])
    by_two = led_rows(n, two[1])
    for row in rows_of(n):
        if row in by_one and row not in by_two:
            return (0, row)
        if row in by_two and row not in by_one:
            return (1, row)
    return None


def alike(one, two):
    """Whether both lots can lead to the same rows."""
    return parting(one, two) is None


def break_of(lot):
    """Two rows of the lot and a row of their sum that is not in it, None if there are none."""
    n, rows = made_lot(lot)
    ask_few_members(n)
    held = set(rows)
    for one in rows:
        for two in rows:
            for row in sums(one, two):
                if row not in held:
                    return (one, two, row)
    return None


def turns_of(one, two):
    """Of each row in the sum of a row of one and a row of two such a pair of rows."""
    pairs = {}
    for first in one[1]:
        for second in two[1]:
            for row in sums(first, second):
                pairs[row] = (first, second)
    return pairs


def by_turns(one, two):
    """The lot of all rows in the sum of a row of one and a row of two."""
    ask_two(one, two)
    ask_few_members(one[0])
    return lot_of(one[0], list(turns_of(one, two)))


def turns_way(one, two, row):
    """A way of an even number of steps, by one and two in turns, whose end stands so to its beginning."""
    ask_two(one, two)
    n = one[0]
    made_row(n, row)
    ask_few_members(n)
    pairs = turns_of(one, two)
    picked = few(lot_of(n, list(pairs)), row)
    if picked is None:
        raise Barred(0)
    # Rows that lead to the row still do if each is parted into two of whose sum it is.
    steps = ()
    for each in picked:
        steps = steps + pairs[each]
    return way_of(n, steps, row)
