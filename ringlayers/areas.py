"""Areas of pieces and sheets, in parts: a 24th of a turn has one part within 1 of the middle."""

from ringlayers.cells import bands_between, cell_area, depth_rows, edges_of, point_in_cell


def area_of(piece):
    return (piece[1] * piece[1] - piece[0] * piece[0]) * piece[3]


def depth_areas(sheet):
    areas = [0] * (len(sheet) + 1)
    bands = bands_between(edges_of(sheet))
    for band, row in zip(bands, depth_rows(sheet, bands)):
        for depth in row:
            areas[depth] += cell_area(band)
    return tuple(areas[1:])


def covered_area(sheet):
    return sum(depth_areas(sheet))


def shared_area(sheet, numbers):
    # Of these pieces alone: where as many lie as there are, all of them lie.
    shared = tuple([piece for number, piece in enumerate(sheet) if number in numbers])
    if len(shared) == 0:
        return 0
    return depth_areas(shared)[-1]


def unlike(one, other):
    bands = bands_between(edges_of(one + other))
    for band, here, there in zip(bands, depth_rows(one, bands), depth_rows(other, bands)):
        turn = unlike_turn(here, there)
        if turn is not None:
            return point_in_cell(band[0], turn)
    return None


def unlike_turn(here, there):
    for turn, depths in enumerate(zip(here, there)):
        if (depths[0] == 0) != (depths[1] == 0):
            return turn
    return None
