"""The errors: all stand straight under Refused, and keep in what the thing or the place they tell."""


class Refused(ValueError):
    """What the package does not take."""

    def __init__(self, what):
        self.what = what
        # A session tells what it refuses by the name of the class.
        self.kind = self.__class__.__name__


class BadMany(Refused):
    """What should be a number of members is no number from 1 to 6."""


class BadRow(Refused):
    """What should be a row is none."""


class BadRows(Refused):
    """What should be rows to be laid one behind another is not."""


class BadLot(Refused):
    """What should be a lot is none."""


class BadTable(Refused):
    """What should be a table is none."""


class BadOrder(Refused):
    """What should be an order of the members is none."""


class BadSigns(Refused):
    """What should be a sign for each member is not."""


class BadLadder(Refused):
    """What should be a ladder is none."""


class Unlike(Refused):
    """Two things have not equally many members."""


class TooMany(Refused):
    """There is more of something than is taken."""


class NotLed(Refused):
    """The rows do not lead to the row."""


class Barred(Refused):
    """The way to the row is barred."""


class BadNumber(Refused):
    """There is no tight ladder of this number."""


class NotTight(Refused):
    """The ladder is not tight."""


class BadPrices(Refused):
    """What should be prices is not."""


class BadLadders(Refused):
    """What should be several ladders is not."""


class BadSeen(Refused):
    """What should be seen votes is not."""


class NoCouncil(Refused):
    """There is no council of which the seen votes could be."""


class BadMotion(Refused):
    """What should be a motion is none."""


class BadWorld(Refused):
    """What should be a world is none."""


class NoMotion(Refused):
    """The world has no motion of this number."""


class NothingBack(Refused):
    """There is nothing that could be taken back."""


class NothingAgain(Refused):
    """There is nothing that could be done again."""


class Full(Refused):
    """As many plans were made as may be."""


class NoPlan(Refused):
    """There is no plan, or nothing of it is left."""


class Level(Refused):
    """The level row cannot stand in a table."""


class HasRow(Refused):
    """The table has the row."""


class NoRow(Refused):
    """The table has not the row."""


class BadText(Refused):
    """What should be a text, or a word of it, is not."""


class NoName(Refused):
    """There is no such name."""


class Twice(Refused):
    """The same stands ahead."""


class TooDeep(Refused):
    """More is open than may be."""


class BadNames(Refused):
    """What should be names is not."""


class NoStart(Refused):
    """The text tells no beginning."""


class BadMinutes(Refused):
    """A piece of the minutes is not as it should be."""
