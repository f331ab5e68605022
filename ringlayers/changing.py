"""Sheets changed: turned, mirrored, grown, made plain and cut from one another."""

from ringlayers.cells import bands_between, depth_rows, edges_of
from ringlayers.pieces import WHOLE_TURN


def turned(sheet, by):
    return tuple([(piece[0], piece[1], (piece[2] + by) % WHOLE_TURN, piece[3]) for piece in sheet])


def mirrored(sheet):
    return tuple([(piece[0], piece[1], (-piece[2] - piece[3]) % WHOLE_TURN, piece[3]) for piece in sheet])


def grown(sheet, times):
    return tuple([(piece[0] * times, piece[1] * times, piece[2], piece[3]) for piece in sheet])


def plain(sheet):
    return both_of(sheet, sheet)


def both_of(one, other):
    return kept(one, other, True)


def cut_out(one, other):
    return kept(one, other, False)


def kept(one, other, shared):
    """What one covers where other does so too, or, if not shared, where it doesn't."""
    bands = bands_between(edges_of(one + other))
    pieces = []
    for band, here, there in zip(bands, depth_rows(one, bands), depth_rows(other, bands)):
        row = [depths[0] > 0 and (depths[1] > 0) == shared for depths in zip(here, there)]
        pieces.extend([(band[0], band[1], run[0], run[1]) for run in runs_in(row)])
    return tuple(pieces)


def runs_in(row):
    """Begin and wide of each run of kept cells in one band."""
    if all(row):
        return [(0, WHOLE_TURN)]
    # The index -1 is the last cell, which lies before the first one.
    begins = [turn for turn, keep in enumerate(row) if keep and not row[turn - 1]]
    return [(begin, run_from(row, begin)) for begin in begins]


def run_from(row, begin):
    wide = 0
    while row[(begin + wide) % WHOLE_TURN]:
        wide += 1
    return wide
