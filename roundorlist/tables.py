"""Tables: the lots of the rows by which a new motion wins."""

from roundorlist.errors import BadTable, Refused
from roundorlist.lots import lot_fault


def made_table(thing):
    """The table that thing is."""
    fault = lot_fault(thing, False)
    if fault is not None:
        raise BadTable(fault)
    return thing


def is_table(thing):
    """Whether thing is a table."""
    try:
        made_table(thing)
    except Refused:
        return False
    return True
