"""Faces of a sheet, and the lands, holes and borders of what it covers."""

from ringlayers.cells import bands_between, cell_area, edges_of
from ringlayers.neighbours import bounded_groups, cell_at, cell_beside, cell_layers, hanging_with
from ringlayers.pieces import WHOLE_TURN


def same_face(sheet, one, other):
    edges = edges_of(sheet)
    return cell_at(edges, other) in hanging_with(cell_layers(sheet, edges), cell_at(edges, one))


def faces(sheet):
    edges = edges_of(sheet)
    bands = bands_between(edges)
    numbers = cell_layers(sheet, edges)
    return tuple(sorted([(numbers[group[0]], group_area(group, bands)) for group in bounded_groups(numbers)]))


def group_area(group, bands):
    return sum([cell_area(bands[cell // WHOLE_TURN]) for cell in group])


def face_count(sheet):
    return len(faces(sheet)) + 1


def lands(sheet):
    return groups_that_are(sheet, True)


def holes(sheet):
    return groups_that_are(sheet, False)


def groups_that_are(sheet, covered):
    cells = covered_cells(sheet, edges_of(sheet))
    return len([group for group in bounded_groups(cells) if cells[group[0]] == covered])


def covered_cells(sheet, edges):
    return [len(numbers) > 0 for numbers in cell_layers(sheet, edges)]


def border(sheet):
    edges = edges_of(sheet)
    covered = covered_cells(sheet, edges)
    arcs = 0
    lines = 0
    # The cells that go on without end are all uncovered: no border lies between two of them.
    for cell in range(len(covered) - WHOLE_TURN):
        band = cell // WHOLE_TURN
        if covered[cell] != covered[cell + WHOLE_TURN]:
            arcs += edges[band + 1]
        if covered[cell] != covered[cell_beside(cell, 1)]:
            lines += edges[band + 1] - edges[band]
    return (arcs, lines)
