"""Strikes: the cheapest rows without which a table never goes round, or a lot cannot lead to a row."""

from roundorlist.errors import BadPrices
from roundorlist.lots import made_lot
from roundorlist.rows import is_number, level, made_row
from roundorlist.tables import made_table

# In what follows priced is a list of pairs of a row and its price, and a plan the pair of the sum of some
# prices and the rows struck for it.


def ask_prices(rows, prices):
    """What the mark (prices) stands for."""
    if not isinstance(prices, tuple) or len(prices) != len(rows):
        raise BadPrices(-1)
    for index, price in enumerate(prices):
        if not is_number(price) or price < 1:
            raise BadPrices(index)


def striking(priced):
    """The plan that strikes all of these rows."""
    return (sum([price for _, price in priced]), tuple([row for row, _ in priced]))


def with_sign(priced, member, sign):
    """Those of the priced rows that have the sign at the member."""
    return [(row, price) for row, price in priced if row[member] == sign]


def plans_through(priced, row, member, held, known):
    """A plan for each sign with which the member, at which the row has 0, can be put behind the held ones."""
    rest = cheapest(with_sign(priced, member, 0), row, held | (1 << member), known)
    plans = []
    for sign in (-1, 1):
        price, struck = striking(with_sign(priced, member, -sign))
        plans.append((price + rest[0], struck + rest[1]))
    return plans


def cheapest(priced, row, held, known):
    """The cheapest plan for a ladder that begins with the held members to bar the row, these priced rows being left.

    The row is level on the held members, of which each has a bit in held. Which rows are left does
    not depend on their order, so known keeps one plan for each held.
    """
    if len(priced) == 0:
        return (0, ())
    if held not in known:
        plans = [striking(priced)]
        for member, sign in enumerate(row):
            if sign != 0:
                # Put with the contrary sign the row falls here, so nothing behind matters.
                plans.append(striking(with_sign(priced, member, sign)))
            elif (held >> member) & 1 == 0:
                plans.extend(plans_through(priced, row, member, held, known))
        known[held] = min(plans, key=lambda plan: plan[0])
    return known[held]


def bar_plan(rows, prices, row):
    """The cheapest plan for the rest of the rows not to be able to lead to the row."""
    return cheapest(list(zip(rows, prices)), row, 0, {})


def calm_plan(table, prices):
    """The cheapest plan for the rest of the table not to go round."""
    n, rows = made_table(table)
    ask_prices(rows, prices)
    # A table goes round exactly if it can lead to the level row.
    return bar_plan(rows, prices, level(n))


def calm_price(table, prices):
    """The least sum of prices of rows without which the table does not go round."""
    price, _ = calm_plan(table, prices)
    return price


def calm_strike(table, prices):
    """Rows of the least sum of prices without which the table does not go round, rising."""
    _, struck = calm_plan(table, prices)
    return tuple(sorted(struck))


def bar_plan_of(lot, prices, row):
    """The cheapest plan for the rest of the lot not to be able to lead to the row."""
    n, rows = made_lot(lot)
    ask_prices(rows, prices)
    made_row(n, row)
    return bar_plan(rows, prices, row)


def bar_price(lot, prices, row):
    """The least sum of prices of rows without which the lot cannot lead to the row."""
    price, _ = bar_plan_of(lot, prices, row)
    return price


def bar_strike(lot, prices, row):
    """Rows of the least sum of prices without which the lot cannot lead to the row, rising."""
    _, struck = bar_plan_of(lot, prices, row)
    return tuple(sorted(struck))
