"""Boards: pieces are put in and taken out, and keep their numbers."""

from ringlayers.areas import covered_area, depth_areas
from ringlayers.errors import NoPiece
from ringlayers.pieces import has


class Board:
    def __init__(self):
        # Numbers only ever rise, so the dict's own order is theirs.
        self.pieces = {}
        self.unused = 0

    def put_in(self, piece):
        number = self.unused
        self.pieces[number] = piece
        self.unused = number + 1
        return number

    def take_out(self, number):
        if number not in self.pieces:
            raise NoPiece(f"no piece has the number {number}")
        self.pieces.pop(number)

    def numbers(self):
        return tuple(self.pieces.keys())

    def sheet(self):
        return tuple(self.pieces.values())

    def layers_at(self, point):
        return tuple([number for number, piece in self.pieces.items() if has(piece, point)])

    def area(self):
        return covered_area(self.sheet())

    def depth_area(self, k):
        areas = depth_areas(self.sheet())
        if not 1 <= k <= len(areas):
            return 0
        return areas[k - 1]
