"""The minutes of a sitting as a text, and sittings opened from such a text."""

from roundorlist.errors import BadMinutes, NoStart
from roundorlist.sittings import Sitting
from roundorlist.tables import made_table
from roundorlist.texts import is_height, motion_text
from roundorlist.words import ask_text

START = "stands "
PUT = " put "
OUTCOMES = {True: " yes", False: " no"}


def minutes_text(sitting):
    """The text of the first motion and the minutes of a sitting."""
    pieces = [START + motion_text(sitting.first())]
    for motion, won in sitting.minutes():
        pieces.append(PUT + motion_text(motion) + OUTCOMES[won])
    return "".join([piece + ";" for piece in pieces])


def motion_between(n, piece, opening, ending):
    """The motion that stands between this opening and this ending of the piece, None if the piece is not so."""
    if not piece.startswith(opening) or not piece.endswith(ending):
        return None
    heights = piece[len(opening):len(piece) - len(ending)].split(" ")
    if len(heights) != n or not all([is_height(height) for height in heights]):
        return None
    return tuple([int(height) for height in heights])


def put_as_told(sitting, n, piece):
    """Whether the piece tells a put and its outcome; then the motion is put."""
    for won in OUTCOMES:
        motion = motion_between(n, piece, PUT, OUTCOMES[won])
        if motion is not None:
            return sitting.put(motion) == won
    return False


def opened(table, text):
    """The sitting whose first motion and minutes are told by the text, up to its last piece that is whole."""
    n, _ = made_table(table)
    ask_text(text)
    end = text.rfind(";")
    if end == -1:
        raise NoStart(0)
    pieces = text[:end].split(";")
    first = motion_between(n, pieces[0], START, "")
    if first is None:
        raise BadMinutes(0)
    sitting = Sitting(table, first)
    for index, piece in enumerate(pieces):
        if index > 0 and not put_as_told(sitting, n, piece):
            raise BadMinutes(index)
    return sitting
