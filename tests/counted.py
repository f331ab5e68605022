"""For the tests: sheets drawn by lot, and what they are, counted by small cells one by one.

A small cell is a 24th of a ring that is 1 wide. Nothing here draws on how the program does it.
"""

import random
from fractions import Fraction


def pair(number):
    number = Fraction(number)
    return (number.numerator, number.denominator)


def point_at(far, turn):
    return (pair(far), pair(turn))


def drawn_sheets(seed, how_many, most_pieces, most_outer, coarse=1):
    # Coarse ones have fewer begins and ends, so that more pieces meet.
    draw = random.Random(seed)
    for _ in range(how_many):
        pieces = []
        for _ in range(draw.randint(0, most_pieces)):
            outer = draw.randint(1, most_outer)
            begin = draw.randrange(0, 24, coarse)
            pieces.append((draw.randint(0, outer - 1), outer, begin, draw.randrange(coarse, 25, coarse)))
        yield tuple(pieces)


def numbers_in(sheet, cell):
    far, turn = cell
    return tuple(number for number, (inner, outer, begin, wide) in enumerate(sheet)
                 if inner <= far < outer and (turn - begin) % 24 < wide)


def small_cells(sheet):
    # With one ring beyond all pieces, whose cells stand for all that goes on without end.
    farthest = max([piece[1] for piece in sheet], default=0)
    cells = [(far, turn) for far in range(farthest + 1) for turn in range(24)]
    return {cell: numbers_in(sheet, cell) for cell in cells}


def covered_cells(sheet):
    return {cell: numbers != () for cell, numbers in small_cells(sheet).items()}


def beside(cell):
    far, turn = cell
    return ((far + 1, turn), (far - 1, turn), (far, (turn + 1) % 24), (far, (turn - 1) % 24))


def hanging_together(cells):
    # Sets of cells, of equal values, the outermost one first.
    left = dict(reversed(list(cells.items())))
    while left:
        cell, value = next(iter(left.items()))
        group, border = {cell}, [cell]
        while border:
            for other in beside(border.pop()):
                if other not in group and cells.get(other) == value:
                    group.add(other)
                    border.append(other)
        for cell in group:
            del left[cell]
        yield group


def counted_faces(sheet):
    cells = small_cells(sheet)
    told = []
    for group in list(hanging_together(cells))[1:]:
        told.append((cells[min(group)], sum(2 * far + 1 for far, turn in group)))
    return tuple(sorted(told))


def counted_groups(sheet, covered):
    cells = covered_cells(sheet)
    return sum(cells[min(group)] == covered for group in list(hanging_together(cells))[1:])


def counted_border(sheet):
    cells = covered_cells(sheet)
    arcs = lines = 0
    for (far, turn), covered in cells.items():
        arcs += far * (cells.get((far - 1, turn), covered) != covered)
        lines += cells[(far, (turn - 1) % 24)] != covered
    return (arcs, lines)


def cell_of(sheet, point):
    (far, below), (turn, parts) = point
    farthest = max([piece[1] for piece in sheet], default=0)
    return (min(far // below, farthest), turn // parts)


def counted_same_face(sheet, one, other):
    groups = hanging_together(small_cells(sheet))
    return any(cell_of(sheet, one) in group and cell_of(sheet, other) in group for group in groups)


def stops_between(begin, end):
    # Both ends, all whole numbers between, and something between each two of these.
    low, high = sorted((begin, end))
    stops = sorted({low, high} | set(Fraction(whole) for whole in range(int(low) - 1, int(high) + 2)
                                     if low < whole < high))
    return stops + [(one + other) / 2 for one, other in zip(stops, stops[1:])]


def points_on(point, move):
    # All points of the move that can have other layers than those next to them, the end as the last.
    far, turn, to = Fraction(*point[0]), Fraction(*point[1]), Fraction(*move[1])
    if move[0] == "out":
        return [point_at(stop, turn) for stop in stops_between(far, to)] + [point_at(to, turn)]
    stops = stops_between(turn, turn + to) + [turn + to]
    return [point_at(far, stop % 24) for stop in stops]
