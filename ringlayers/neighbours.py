"""Cells by numbers, 24 to a band from the middle on, and which of them hang together.

The cells from the last edge on go on without end; no piece has points there.
"""

from ringlayers.cells import span_of, turns_of
from ringlayers.fractions import whole_part
from ringlayers.pieces import WHOLE_TURN


def cell_layers(sheet, edges):
    """For each cell the rising numbers of all pieces that have its points."""
    cells = [[] for place in range(WHOLE_TURN * len(edges))]
    for number, piece in enumerate(sheet):
        for cell in cells_of(piece, edges):
            cells[cell].append(number)
    return [tuple(numbers) for numbers in cells]


def cells_of(piece, edges):
    span = span_of(piece)
    turns = turns_of(piece)
    cells = []
    for band in range(edges.index(span[0]), edges.index(span[1])):
        cells.extend([WHOLE_TURN * band + turn for turn in turns])
    return cells


def cell_at(edges, point):
    # A cell has its inner edge and its begin, as pieces do, so whole parts are enough.
    far = whole_part(point[0])
    inward = len([edge for edge in edges if 0 < edge <= far])
    return WHOLE_TURN * inward + whole_part(point[1]) % WHOLE_TURN


def cell_beside(cell, by):
    turn = cell % WHOLE_TURN
    return cell - turn + (turn + by) % WHOLE_TURN


def neighbours(cell, count):
    # Cells that meet at a corner or at the middle alone are none: no move goes through there.
    beside = [cell_beside(cell, 1), cell_beside(cell, -1)]
    across = [cell + WHOLE_TURN, cell - WHOLE_TURN]
    return beside + [other for other in across if 0 <= other < count]


def hanging_with(values, start):
    """All cells that one comes to from start by neighbours of its value, each with the one before it."""
    before = {start: None}
    row = [start]
    place = 0
    while place < len(row):
        cell = row[place]
        for other in neighbours(cell, len(values)):
            if other not in before and values[other] == values[start]:
                before[other] = cell
                row.append(other)
        place += 1
    return before


def bounded_groups(values):
    """The cells by which of them hang together, as lists, but those that go on without end."""
    known = hanging_with(values, len(values) - 1)
    groups = []
    for cell in range(len(values)):
        if cell not in known:
            group = hanging_with(values, cell)
            known.update(group)
            groups.append(list(group))
    return groups
