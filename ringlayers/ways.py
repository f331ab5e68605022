"""Ways from point to point that stay in one face."""

from ringlayers.cells import edges_of, point_in_cell
from ringlayers.fractions import added, whole_part
from ringlayers.moves import OUT, end_of, from_0_on, is_move, moves_between
from ringlayers.neighbours import cell_at, cell_beside, cell_layers, hanging_with
from ringlayers.pieces import WHOLE_TURN


def way(sheet, one, other):
    edges = edges_of(sheet)
    before = hanging_with(cell_layers(sheet, edges), cell_at(edges, one))
    goal = cell_at(edges, other)
    if goal not in before:
        return None
    points = [one] + points_through(cells_up_to(before, goal), edges) + [other]
    moves = []
    for point, following in zip(points, points[1:]):
        moves.extend(moves_between(point, following))
    return tuple(moves)


def cells_up_to(before, goal):
    cells = []
    cell = goal
    while cell is not None:
        cells.append(cell)
        cell = before[cell]
    return list(reversed(cells))


def points_through(cells, edges):
    # Within one cell all moves stay in the face; from cell to cell only those along one line surely do.
    if len(cells) == 1:
        return []
    return [point_in_cell(edges[cell // WHOLE_TURN], cell % WHOLE_TURN) for cell in cells]


def is_way(sheet, one, other, thing):
    if not isinstance(thing, tuple) or not all([is_move(part) for part in thing]):
        return False
    edges = edges_of(sheet)
    numbers = cell_layers(sheet, edges)
    point = one
    for move in thing:
        here = numbers[cell_at(edges, point)]
        if not all([numbers[cell] == here for cell in cells_on(edges, point, move)]):
            return False
        point = end_of(point, move)
    return ends_at(point, other)


def cells_on(edges, point, move):
    cell = cell_at(edges, point)
    if move[0] == OUT:
        end = cell_at(edges, end_of(point, move))
        return list(range(min(cell, end), max(cell, end) + 1, WHOLE_TURN))
    begin = whole_part(point[1])
    # Not the end's own turn: beyond 24 and below 0 it would begin anew.
    end = whole_part(added(point[1], move[1]))
    return [cell_beside(cell, turn - begin) for turn in range(min(begin, end), max(begin, end) + 1)]


def ends_at(point, other):
    return (point[0], from_0_on(point[1])) == (other[0], from_0_on(other[1]))
