"""Rows, lots, motions and ladders as texts, and the names of members."""

from roundorlist.errors import BadNames, BadText, NoName, Twice
from roundorlist.ladders import made_ladder
from roundorlist.lots import lot_of, made_lot
from roundorlist.rows import MOST_MEMBERS, ask_many, made_row
from roundorlist.words import Words, are_figures, ask_text, is_name, told_words
from roundorlist.worlds import made_motion

MOST_HEIGHT_FIGURES = 400
NONE = "none"
ROW_SIGNS = {1: "+", 0: "0", -1: "-"}
SIGN_NUMBERS = {"+": 1, "0": 0, "-": -1}
WAY_WORDS = {1: "up", -1: "down"}
WAYS = ("up", "down")
WAY_SIGNS = {"up": 1, "down": -1}


def made_names(thing):
    """The names that thing is, one for each member."""
    if not isinstance(thing, tuple) or not 1 <= len(thing) <= MOST_MEMBERS:
        raise BadNames(-1)
    for index, name in enumerate(thing):
        if not is_name(name) or name in thing[:index]:
            raise BadNames(index)
    return thing


def row_text(row):
    """The text of a row."""
    return "".join([ROW_SIGNS[sign] for sign in row])


def row_from(n, text, at):
    """The row of n members that a text is, which begins at this place of a longer one."""
    row = []
    for place, sign in enumerate(text):
        if place == n or sign not in SIGN_NUMBERS:
            raise BadText(at + place)
        row.append(SIGN_NUMBERS[sign])
    if len(row) < n:
        raise BadText(at + len(row))
    return tuple(row)


def print_row(n, row):
    """The text of a row."""
    made_row(n, row)
    return row_text(row)


def read_row(n, text):
    """The row that a text tells."""
    ask_many(n)
    ask_text(text)
    return row_from(n, text, 0)


def print_lot(lot):
    """The text of a lot."""
    _, rows = made_lot(lot)
    if len(rows) == 0:
        return NONE
    return " ".join([row_text(row) for row in rows])


def read_lot(n, text):
    """The lot that a text tells."""
    ask_many(n)
    ask_text(text)
    if text == NONE:
        return (n, ())
    rows = {}
    at = 0
    for piece in text.split(" "):
        row = row_from(n, piece, at)
        if row in rows:
            raise Twice(at)
        rows[row] = True
        at += len(piece) + 1
    return lot_of(n, list(rows))


def is_height(piece):
    """Whether the piece is a height that can be read."""
    figures = piece[1:] if piece.startswith("-") else piece
    return are_figures(figures) and len(figures) <= MOST_HEIGHT_FIGURES and piece != "-0"


def motion_text(motion):
    """The text of a motion, however many figures its heights have."""
    return " ".join([str(height) for height in motion])


def motion_from(n, text, at):
    """The motion of n members that a text is, which begins at this place of a longer one."""
    heights = []
    place = at
    for piece in text.split(" "):
        if len(heights) == n or not is_height(piece):
            raise BadText(place)
        heights.append(int(piece))
        place += len(piece) + 1
    if len(heights) < n:
        raise BadText(at + len(text))
    return tuple(heights)


def print_motion(n, motion):
    """The text of a motion."""
    made_motion(n, motion)
    return motion_text(motion)


def read_motion(n, text):
    """The motion that a text tells."""
    ask_many(n)
    ask_text(text)
    return motion_from(n, text, 0)


def pairs_text(names, pairs):
    """The text of pairs of a member and a sign, told like a ladder's."""
    if len(pairs) == 0:
        return NONE
    words = []
    for member, sign in pairs:
        words.extend([names[member], WAY_WORDS[sign], ","])
    return told_words(words[:-1])


def print_ladder(names, ladder):
    """The text of a ladder."""
    made_names(names)
    made_ladder(len(names), ladder)
    return pairs_text(names, ladder)


def member_from(names, words, ahead):
    """The member whose name is read next, and who is none of those ahead."""
    name = words.ask_name()
    if name not in names:
        raise NoName(words.place())
    member = names.index(name)
    if member in ahead:
        raise Twice(words.place())
    words.take()
    return member


def rungs_from(names, words):
    """The pairs of a ladder that is not empty."""
    signs = {}
    while True:
        member = member_from(names, words, signs)
        signs[member] = WAY_SIGNS[words.one_of(WAYS)]
        if words.word() != ",":
            return tuple(signs.items())
        words.take()


def read_ladder(names, text):
    """The ladder that a text tells."""
    made_names(names)
    ask_text(text)
    words = Words(text)
    if words.word() == NONE:
        words.take()
        ladder = ()
    else:
        ladder = rungs_from(names, words)
    words.ask_end()
    return ladder
