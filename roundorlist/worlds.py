"""Worlds: motions that are given, how they win over one another, and where wins end."""

from roundorlist.errors import BadMotion, BadWorld, NoMotion, Refused, Unlike
from roundorlist.leading import row_of
from roundorlist.rows import ask_many, is_many, is_number
from roundorlist.tables import made_table

MOST_MOTIONS = 40

# Heights are made so many times finer where motions have to be put between them: 1 to 7 steps part it evenly.
FINE = 420


def motion_fault(n, thing):
    """What BadMotion tells of thing, None if it is a motion of n members."""
    if not isinstance(thing, tuple) or len(thing) != n:
        return -1
    for place, height in enumerate(thing):
        if not is_number(height):
            return place
    return None


def made_motion(n, thing):
    """The motion that thing is."""
    ask_many(n)
    fault = motion_fault(n, thing)
    if fault is not None:
        raise BadMotion(fault)
    return thing


def is_motion(n, thing):
    """Whether n may be a number of members, and thing is a motion of as many."""
    return is_many(n) and motion_fault(n, thing) is None


def fine(motion):
    """The motion in fine heights."""
    return tuple([FINE * height for height in motion])


def world_fault(thing):
    """What BadWorld tells of thing, None if it is a world."""
    if not isinstance(thing, tuple) or len(thing) != 2:
        return -1
    n, motions = thing
    ask_many(n)
    if not isinstance(motions, tuple) or not 1 <= len(motions) <= MOST_MOTIONS:
        return -1
    for index, motion in enumerate(motions):
        if motion_fault(n, motion) is not None:
            return index
    return None


def made_world(thing):
    """The world that thing is."""
    fault = world_fault(thing)
    if fault is not None:
        raise BadWorld(fault)
    return thing


def is_world(thing):
    """Whether thing is a world."""
    try:
        made_world(thing)
    except Refused:
        return False
    return True


def ask_world(table, world):
    """What the marks (table), (world) and (unlike) stand for."""
    made_table(table)
    made_world(world)
    if table[0] != world[0]:
        raise Unlike(0)


def ask_motion(world, thing):
    """What the mark (number) stands for."""
    if not is_number(thing) or not 0 <= thing < len(world[1]):
        raise NoMotion(thing)


def beats(table, world, new, old):
    """Whether the motion with the number new wins over that with the number old."""
    ask_world(table, world)
    ask_motion(world, new)
    ask_motion(world, old)
    return row_of(world[1][new], world[1][old]) in table[1]


def winners(table, world):
    """Of each motion the numbers of all that win over it, rising."""
    wins = set(table[1])
    over = []
    for old in world[1]:
        over.append([number for number, new in enumerate(world[1]) if row_of(new, old) in wins])
    return over


def ahead_from(over, start):
    """Of each number come to from start the one ahead of it in a shortest tuple, of start None; the nearer first."""
    ahead = {start: None}
    newest = [start]
    while len(newest) > 0:
        found = []
        for old in newest:
            for new in over[old]:
                if new not in ahead:
                    ahead[new] = old
                    found.append(new)
        newest = found
    return ahead


def tuple_to(ahead, last):
    """The tuple that ends with the number last, each of its others being ahead of the next one."""
    numbers = []
    at = last
    while at is not None:
        numbers.append(at)
        at = ahead[at]
    return tuple(reversed(numbers))


def reach(table, world, start):
    """The numbers of all motions come to from start, rising."""
    ask_world(table, world)
    ask_motion(world, start)
    return tuple(sorted(ahead_from(winners(table, world), start)))


def shortest(table, world, one, two):
    """A tuple of the fewest numbers from one to two, each winning over the one ahead; None if there is none."""
    ask_world(table, world)
    ask_motion(world, one)
    ask_motion(world, two)
    ahead = ahead_from(winners(table, world), one)
    if two not in ahead:
        return None
    return tuple_to(ahead, two)


def ends(table, world):
    """All tuples of numbers such that from each of them just those of the tuple are come to, by their first ones."""
    ask_world(table, world)
    over = winners(table, world)
    reached = [sorted(ahead_from(over, start)) for start in range(len(over))]
    found = []
    for start, numbers in enumerate(reached):
        # Of each tuple just its first number tells it.
        if numbers[0] == start and all([reached[number] == numbers for number in numbers]):
            found.append(tuple(numbers))
    return tuple(found)


def round_in(table, world):
    """Numbers, each winning over the one ahead, and the first over the last; None if there are none such."""
    ask_world(table, world)
    over = winners(table, world)
    for start in range(len(over)):
        ahead = ahead_from(over, start)
        for last in ahead:
            if start in over[last]:
                return tuple_to(ahead, last)
    return None
