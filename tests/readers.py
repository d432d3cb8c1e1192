"""Plain readers of texts, without the package: each returns what is told, or the name of the error and its what."""

import re

from common import name_told, words_told

ROW_SIGNS = {"+": 1, "0": 0, "-": -1}


def row_plain(n, text, at=0):
    for place, sign in enumerate(text):
        if place == n or sign not in "+0-":
            return ("BadText", at + place)
    if len(text) < n:
        return ("BadText", at + len(text))
    return tuple(ROW_SIGNS[sign] for sign in text)


def lot_plain(n, text):
    if text == "none":
        return (n, ())
    at, rows = 0, []
    for piece in text.split(" "):
        row = row_plain(n, piece, at)
        if row[0] == "BadText":
            return row
        if row in rows:
            return ("Twice", at)
        rows.append(row)
        at += len(piece) + 1
    return (n, tuple(sorted(rows)))


def motion_plain(n, text):
    at, heights = 0, []
    for piece in text.split(" "):
        if len(heights) == n or not re.fullmatch("0|-?[1-9][0-9]{0,399}", piece):
            return ("BadText", at)
        heights.append(int(piece))
        at += len(piece) + 1
    return tuple(heights) if len(heights) == n else ("BadText", len(text))


def ladder_plain(names, text):
    words, ladder = words_told(text), []
    if words[0][0] == "none":
        return () if words[1][0] == "" else ("BadText", words[1][1])
    for at in range(0, len(words), 3):
        word, place = words[at]
        if not name_told(word):
            return ("BadText", place)
        if word not in names:
            return ("NoName", place)
        if names.index(word) in [member for member, _ in ladder]:
            return ("Twice", place)
        word, place = words[at + 1]
        if word not in ("up", "down"):
            return ("BadText", place)
        ladder.append((names.index(words[at][0]), 1 if word == "up" else -1))
        word, place = words[at + 2]
        if word == "":
            return tuple(ladder)
        if word != ",":
            return ("BadText", place)
    return None
