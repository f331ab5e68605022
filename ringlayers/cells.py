"""Cells: what lies between two neighbouring edges of sheets, within one 24th of a turn.

Pieces begin and end at whole fars and turns alone, so all points of a cell have the same layers.
"""

from ringlayers.pieces import WHOLE_TURN


def span_of(piece):
    # Pieces beyond the bounds: no point lies below 0, and none where outer is not above inner.
    inner = max(piece[0], 0)
    return (inner, max(piece[1], inner))


def turns_of(piece):
    # A piece wider than a whole turn has no point twice.
    wide = min(piece[3], WHOLE_TURN)
    return [(piece[2] + step) % WHOLE_TURN for step in range(wide)]


def edges_of(sheet):
    # With 0 the first band lies about the middle, also where no piece goes in as far.
    fars = [0]
    for piece in sheet:
        fars.extend(span_of(piece))
    return sorted(set(fars))


def bands_between(edges):
    return list(zip(edges, edges[1:]))


def depth_changes(sheet):
    changes = {}
    for piece in sheet:
        span = span_of(piece)
        add_change(changes, span[0], piece, 1)
        add_change(changes, span[1], piece, -1)
    return changes


def add_change(changes, far, piece, by):
    row = changes.setdefault(far, [0] * WHOLE_TURN)
    for turn in turns_of(piece):
        row[turn] += by


def depth_rows(sheet, bands):
    """For each band, from the middle on, how many pieces lie in each of its 24 cells.

    The bands have all edges of the sheet among theirs; they may have more.
    """
    # Carried on from band to band, a piece is looked at twice, however many bands it goes through.
    changes = depth_changes(sheet)
    rows = []
    row = [0] * WHOLE_TURN
    for band in bands:
        change = changes.get(band[0], [0] * WHOLE_TURN)
        row = [depth + by for depth, by in zip(row, change)]
        rows.append(row)
    return rows


def cell_area(band):
    return band[1] * band[1] - band[0] * band[0]


def point_in_cell(inner, turn):
    # Halves behind the whole edges: never the middle, never past the cell, and never to be made less.
    return ((2 * inner + 1, 2), (2 * turn + 1, 2))
