"""Texts as sheets: just those texts are read that a sheet is written as."""

from ringlayers.errors import NoText
from ringlayers.pieces import MOST_OUTER, is_sheet
from ringlayers.writing import NO_PIECES

FIGURES = "0123456789"
SIGNS_BETWEEN = ("-", "@", "+")


def read(text):
    if text == NO_PIECES:
        return ()
    sheet = tuple([read_piece(part) for part in text.split(" ")])
    if not is_sheet(sheet):
        raise NoText("a text with too many pieces, or with numbers that no piece has")
    return sheet


def read_piece(text):
    return tuple([read_number(part) for part in parts_of_piece(text)])


def parts_of_piece(text):
    # Where a sign is missing, nothing is left for the last part, and an empty part is no number.
    parts = []
    rest = text
    for sign in SIGNS_BETWEEN:
        cut = rest.partition(sign)
        parts.append(cut[0])
        rest = cut[2]
    parts.append(rest)
    return parts


def read_number(text):
    if not is_number(text):
        raise NoText("a text with something else in the place of a number")
    return int(text)


def is_number(text):
    # Python's int takes blanks, signs and other scripts' figures, and fails at very long rows: none gets there.
    if text == "" or len(text) > len(str(MOST_OUTER)):
        return False
    if text[0] == "0" and text != "0":
        return False
    return all([sign in FIGURES for sign in text])
