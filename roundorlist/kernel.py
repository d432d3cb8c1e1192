"""The kernel: judges of ways, ladders and numbers, whoever has found them; they look for nothing themselves."""

from roundorlist.ladders import all_climb, bars, is_ladder
from roundorlist.leading import row_of
from roundorlist.lots import is_lot
from roundorlist.rows import is_number, is_row
from roundorlist.tables import is_table
from roundorlist.worlds import fine, is_motion, is_world


def is_way(n, thing):
    """Whether thing is a tuple of two motions of n members or more."""
    if not isinstance(thing, tuple) or len(thing) < 2:
        return False
    return all([is_motion(n, motion) for motion in thing])


def is_way_by(lot, thing):
    """Whether thing is a way whose steps are all rows of the lot."""
    n, rows = lot
    if not is_way(n, thing):
        return False
    held = set(rows)
    return all([row_of(new, old) in held for old, new in zip(thing, thing[1:])])


def way_right(lot, row, way):
    """Whether way is a way by the lot whose end stands to its beginning as the row tells."""
    if not is_lot(lot) or not is_row(lot[0], row):
        return False
    return is_way_by(lot, way) and row_of(way[-1], way[0]) == row


def round_right(table, way):
    """Whether way is a round of the table."""
    return is_table(table) and is_way_by(table, way) and way[-1] == way[0]


def bridge_right(table, one, two, way):
    """Whether way is a way by the table from the motion one to the motion two, in fine heights."""
    if not is_table(table) or not is_motion(table[0], one) or not is_motion(table[0], two):
        return False
    return is_way_by(table, way) and way[0] == fine(one) and way[-1] == fine(two)


def three_right(lot, way):
    """Whether way is a way by the lot of three motions whose end stands to its beginning as no row of the lot tells."""
    if not is_lot(lot) or not is_way_by(lot, way) or len(way) != 3:
        return False
    return row_of(way[-1], way[0]) not in lot[1]


def bars_right(lot, ladder, row):
    """Whether the lot heeds the ladder, and the ladder bars the row."""
    if not is_lot(lot) or not is_ladder(lot[0], ladder) or not is_row(lot[0], row):
        return False
    return bars(lot, ladder, row)


def climbed_right(table, ladder):
    """Whether all rows of the table climb the ladder."""
    return is_table(table) and is_ladder(table[0], ladder) and all_climb(table[1], ladder)


def strike_right(table, rows, ladder):
    """Whether rows are rows of the table, rising, and all its other rows climb the ladder."""
    if not is_table(table) or not is_ladder(table[0], ladder) or not is_lot((table[0], rows)):
        return False
    held = set(table[1])
    struck = set(rows)
    if not all([row in held for row in rows]):
        return False
    return all_climb([row for row in table[1] if row not in struck], ladder)


def are_numbers(world, thing):
    """Whether thing is a tuple of two numbers of motions of the world or more, no number twice."""
    if not isinstance(thing, tuple) or len(thing) < 2:
        return False
    ahead = {}
    for number in thing:
        if not is_number(number) or not 0 <= number < len(world[1]) or number in ahead:
            return False
        ahead[number] = True
    return True


def round_in_right(table, world, numbers):
    """Whether numbers are motions of the world, each winning over the one ahead, and the first over the last."""
    if not is_table(table) or not is_world(world) or table[0] != world[0]:
        return False
    if not are_numbers(world, numbers):
        return False
    motions = [world[1][number] for number in numbers]
    return is_way_by(table, tuple(motions + motions[:1]))
