"""Councils told in a small language: read, told again, and the tables of their wins."""

from roundorlist.errors import TooMany, Twice
from roundorlist.formulas import FormulaReader, formula_words
from roundorlist.rows import MOST_MEMBERS, made_row, rows_of, turned
from roundorlist.truths import Truths
from roundorlist.words import Words, ask_text, told_words

MOST_CHAMBERS = 6


def new_name(words, many, most, ahead):
    """Read the name of a further member or chamber, so many of which are ahead; nobody ahead has it."""
    name = words.ask_name()
    if many == most:
        raise TooMany(words.place())
    if name in ahead:
        raise Twice(words.place())
    return words.take()


def read_members(words):
    """Read the members, up to the ";" behind them: the number of each name."""
    words.one_of(("members",))
    numbers = {}
    follows = ","
    while follows == ",":
        name = new_name(words, len(numbers), MOST_MEMBERS, numbers)
        numbers[name] = len(numbers)
        follows = words.one_of((",", ";"))
    return numbers


def read_chambers(words, numbers, n):
    """Read the chambers, up to the "wins" behind them; their numbers are put to those of the n members."""
    chambers = []
    while words.one_of(("chamber", "wins")) == "chamber":
        name = new_name(words, len(chambers), MOST_CHAMBERS, numbers)
        words.one_of((":",))
        reader = FormulaReader(words, numbers, n)
        chambers.append((name, reader.formula()))
        words.one_of((";",))
        # Only now, as a chamber's own name does not stand in its formula.
        numbers[name] = len(numbers)
    return tuple(chambers)


def read_council(text):
    """The council that a text tells: the names, the chambers, and the formula of its wins."""
    ask_text(text)
    words = Words(text)
    numbers = read_members(words)
    names = tuple(numbers)
    chambers = read_chambers(words, numbers, len(names))
    words.one_of(("if",))
    reader = FormulaReader(words, numbers, len(names))
    formula = reader.formula()
    words.ask_end()
    return (names, chambers, formula)


def wins_at(council, rows):
    """For each of the rows 1 if it wins, otherwise 0; the rows, turned, are the same ones in the contrary order."""
    _, chambers, formula = council
    truths = Truths(rows)
    for _, told in chambers:
        truths.seat_chamber(told)
    return truths.answers(formula)


def true_at(council, row):
    """Whether the formula of the wins is true at the row."""
    names, _, _ = council
    made_row(len(names), row)
    here, _ = wins_at(council, (row, turned(row)))
    return here == 1


def table_of(council):
    """The table of all rows but the level one at which the formula of the wins is true."""
    names, _, _ = council
    n = len(names)
    rows = rows_of(n)
    wins = [row for row, answer in zip(rows, wins_at(council, rows)) if answer == 1 and any(row)]
    return (n, tuple(wins))


def print_council(council):
    """The text of a council."""
    names, chambers, formula = council
    n = len(names)
    known = names + tuple([name for name, _ in chambers])
    words = ["members"]
    for name in names:
        words.extend([name, ","])
    # The last comma gives way to what parts the members from the rest.
    words[-1] = ";"
    for name, told in chambers:
        words.extend(["chamber", name, ":"] + formula_words(told, known, n) + [";"])
    return told_words(words + ["wins", "if"] + formula_words(formula, known, n))
