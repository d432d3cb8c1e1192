"""Tight ladders, counted and told by number, heads, and full ladders."""

from roundorlist.errors import BadNumber, NotTight
from roundorlist.ladders import made_ladder
from roundorlist.lots import made_lot
from roundorlist.rows import is_number
from roundorlist.tables import made_table

# In what follows held is a number with one bit for each member that stands on a ladder. Which rows are
# left behind them does not depend on their order, so known keeps one answer for each held, of one table.


def left_at(rows, member):
    """Those of the rows that have 0 at the member, too."""
    return tuple([row for row in rows if row[member] == 0])


def signs_at(rows, member):
    """Which of -1 and 1 the rows have at the member, rising."""
    found = [row[member] for row in rows]
    return [sign for sign in (-1, 1) if sign in found]


def tight_rungs(n, rows):
    """What can stand next on a tight ladder behind which these rows are left, by rising members."""
    rungs = []
    for member in range(n):
        # A member that stands ahead has 0 in all rows left, so it comes no second time.
        signs = signs_at(rows, member)
        if len(signs) == 1:
            rungs.append((member, signs[0]))
    return rungs


def counted_rungs(n, rows, held, known):
    """What can stand next on a tight ladder, each with how many tight ladders go on from it."""
    counted = []
    for rung in tight_rungs(n, rows):
        left = left_at(rows, rung[0])
        counted.append((rung, tight_many(n, left, held | (1 << rung[0]), known)))
    return counted


def tight_many(n, rows, held, known):
    """How many tight ladders go on from the held members, behind which these rows are left."""
    if len(rows) == 0:
        return 1
    if held not in known:
        known[held] = sum([many for _, many in counted_rungs(n, rows, held, known)])
    return known[held]


def count(table):
    """How many tight ladders the table has."""
    n, rows = made_table(table)
    return tight_many(n, rows, 0, {})


def rung_with(counted, k):
    """The rung from which the ladder with k others ahead goes on, and how many others there it has ahead."""
    ahead = 0
    for rung, many in counted:
        if k < ahead + many:
            return (rung, k - ahead)
        ahead += many
    return None


def nth(table, k):
    """The tight ladder of the table that has k others ahead of it."""
    n, rows = made_table(table)
    known = {}
    if not is_number(k) or not 0 <= k < tight_many(n, rows, 0, known):
        raise BadNumber(k)
    ladder = ()
    held = 0
    ahead = k
    while len(rows) > 0:
        rung, ahead = rung_with(counted_rungs(n, rows, held, known), ahead)
        ladder = ladder + (rung,)
        held = held | (1 << rung[0])
        rows = left_at(rows, rung[0])
    return ladder


def number(table, ladder):
    """How many tight ladders of the table are ahead of this one."""
    n, rows = made_table(table)
    made_ladder(n, ladder)
    known = {}
    held = 0
    ahead = 0
    for rung in ladder:
        counted = counted_rungs(n, rows, held, known)
        if rung not in [each for each, _ in counted]:
            raise NotTight(0)
        ahead += sum([many for each, many in counted if each < rung])
        held = held | (1 << rung[0])
        rows = left_at(rows, rung[0])
    if len(rows) > 0:
        raise NotTight(0)
    return ahead


def heads_of(n, rows):
    """All pairs of a member and a sign such that no row has the contrary sign at the member, rising."""
    pairs = []
    for member in range(n):
        signs = signs_at(rows, member)
        pairs.extend([(member, sign) for sign in (-1, 1) if -sign not in signs])
    return tuple(pairs)


def heads(lot):
    """All pairs of a member and a sign such that no row of the lot has the contrary sign there, rising."""
    n, rows = made_lot(lot)
    return heads_of(n, rows)


def leads_all(lot):
    """Whether the lot can lead to every row."""
    n, rows = made_lot(lot)
    # Without rows all pairs are heads, so a lot that has none of them has a row.
    return len(heads_of(n, rows)) == 0


def full_many(n, rows, held, known):
    """How many ladders of all members, the held ones ahead, are climbed by all of these rows, which are left."""
    if held == (1 << n) - 1:
        return 1
    if held not in known:
        known[held] = full_sum(n, rows, held, known)
    return known[held]


def full_sum(n, rows, held, known):
    """The sum of full_many over all members, with either sign, that can be held next."""
    many = 0
    for member in range(n):
        signs = signs_at(rows, member)
        if (held >> member) & 1 == 0 and len(signs) < 2:
            choices = 2 - len(signs)
            many += choices * full_many(n, left_at(rows, member), held | (1 << member), known)
    return many


def full_count(table):
    """How many ladders of all members are climbed by all rows of the table."""
    n, rows = made_table(table)
    return full_many(n, rows, 0, {})
