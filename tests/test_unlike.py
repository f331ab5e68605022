import itertools
import random
import unittest

from ringlayers.areas import unlike
from ringlayers.pieces import is_point, layers

DISC = (0, 3, 0, 24)
OVER_0 = (2, 5, 20, 7)
SHEET = (DISC, OVER_0, (1, 7, 9, 4), (6, 8, 12, 20))


def covered_cells(sheet, farthest):
    cells = [(far, turn) for far in range(farthest) for turn in range(24)]
    return [cell for cell in cells if layers(sheet, ((2 * cell[0] + 1, 2), (2 * cell[1] + 1, 2)))]


def drawn_sheet(draw):
    pieces = []
    for _ in range(draw.randint(0, 5)):
        outer = draw.randint(1, 4)
        begin = draw.choice((0, 6, 12, 18, 23))
        pieces.append((draw.randint(0, outer - 1), outer, begin, draw.choice((6, 12, 18, 24))))
    return tuple(pieces)


def single_cells(sheet):
    # The same points, by pieces as small as there are.
    farthest = max([piece[1] for piece in sheet], default=0)
    return tuple((far, far + 1, turn, 1) for far, turn in covered_cells(sheet, farthest))


class UnlikeTest(unittest.TestCase):
    def same(self, one, other):
        for left, right in ((one, other), (other, one)):
            with self.subTest(one=left, other=right):
                self.assertIsNone(unlike(left, right))
                self.assertIsNone(unlike(left, right))

    def differ(self, one, other):
        for left, right in ((one, other), (other, one)):
            with self.subTest(one=left, other=right):
                before = (tuple(left), tuple(right))
                point = unlike(left, right)
                self.assertTrue(is_point(point))
                self.assertNotEqual(layers(left, point) == (), layers(right, point) == ())
                self.assertEqual((left, right), before)
                self.assertEqual(unlike(left, right), point)

    def test_a_sheet_and_itself(self):
        for sheet in ((), (DISC,), (OVER_0,), SHEET, SHEET + SHEET):
            self.same(sheet, sheet)

    def test_another_order(self):
        for other in itertools.permutations(SHEET):
            self.same(SHEET, other)

    def test_the_same_piece_more_often(self):
        self.same((OVER_0,), (OVER_0, OVER_0))
        self.same(SHEET, SHEET + (OVER_0,) * 10)

    def test_a_piece_that_adds_nothing(self):
        self.same(SHEET, SHEET + ((3, 4, 22, 3),))
        self.same((DISC,), (DISC, (0, 1, 5, 6), (2, 3, 23, 2)))

    def test_cut_along_a_turn(self):
        self.same(((2, 5, 3, 8),), ((2, 5, 3, 2), (2, 5, 5, 6)))
        for first in range(1, 7):
            self.same((OVER_0,), ((2, 5, 20, first), (2, 5, (20 + first) % 24, 7 - first)))
        for begin in range(24):
            self.same((DISC,), ((0, 3, begin, 12), (0, 3, (begin + 12) % 24, 12)))

    def test_cut_along_a_ring(self):
        self.same((OVER_0,), ((2, 3, 20, 7), (3, 5, 20, 7)))
        self.same((OVER_0,), ((4, 5, 20, 7), (2, 4, 20, 7)))
        self.same((DISC,), ((0, 1, 7, 24), (1, 2, 3, 24), (2, 3, 23, 24)))

    def test_another_begin_of_a_whole_ring(self):
        for begin in range(24):
            self.same(((2, 5, 0, 24),), ((2, 5, begin, 24),))

    def test_in_single_cells(self):
        self.same(SHEET, single_cells(SHEET))
        self.same((OVER_0,), single_cells((OVER_0,)))

    def test_one_is_empty(self):
        for sheet in ((DISC,), (OVER_0,), SHEET, ((0, 1, 0, 1),), ((998, 999, 23, 1),), ((5000, 5001, 23, 1),)):
            self.differ((), sheet)

    def test_apart(self):
        self.differ(((0, 1, 0, 24),), ((1, 2, 0, 24),))
        self.differ(((0, 1, 0, 12),), ((0, 1, 12, 12),))

    def test_one_within_another(self):
        self.differ((DISC,), ((0, 2, 0, 24),))
        self.differ((DISC,), ((1, 3, 0, 24),))
        self.differ((DISC,), ((0, 3, 0, 23),))
        self.differ(((0, 3, 23, 2),), ((0, 3, 23, 1),))
        self.differ(((0, 3, 23, 2),), ((0, 3, 0, 1),))

    def test_one_small_place(self):
        cells = single_cells(SHEET)
        for place in range(0, len(cells), 7):
            self.differ(SHEET, cells[:place] + cells[place + 1:])
            self.differ(cells, cells[:place] + cells[place + 1:])

    def test_one_small_place_far_out(self):
        self.differ(((0, 999, 0, 24),), ((0, 998, 0, 24), (998, 999, 5, 23)))
        self.same(((0, 999, 0, 24),), ((0, 998, 0, 24), (998, 999, 5, 23), (998, 999, 4, 1)))
        self.differ(((0, 10 ** 20, 0, 24),), ((0, 10 ** 20 - 1, 0, 24), (10 ** 20 - 1, 10 ** 20, 0, 23)))

    def test_one_small_place_near_the_middle(self):
        self.differ((DISC,), ((0, 3, 8, 23), (1, 3, 7, 1)))
        self.same((DISC,), ((0, 3, 8, 23), (1, 3, 7, 1), (0, 1, 7, 1)))

    def test_one_more_piece(self):
        self.differ(SHEET, SHEET + ((8, 9, 3, 1),))
        self.differ(SHEET, SHEET + ((30, 40, 3, 1),))

    def test_how_often_does_not_count(self):
        self.differ((OVER_0, OVER_0), (OVER_0, DISC))
        self.same((OVER_0, OVER_0, DISC), (DISC, OVER_0))

    def test_as_counted_one_by_one(self):
        draw = random.Random(6)
        alike = 0
        for _ in range(1500):
            one, other = drawn_sheet(draw), drawn_sheet(draw)
            if covered_cells(one, 4) == covered_cells(other, 4):
                alike += 1
                self.same(one, other)
            else:
                self.differ(one, other)
        self.assertGreater(alike, 10)

    def test_numbers_somewhat_beyond_are_not_refused(self):
        self.same(((0, 3, 25, 2),), ((0, 3, 1, 2),))
        self.same(((0, 3, -1, 2),), ((0, 3, 23, 2),))
        self.same(((0, 3, 5, 30),), (DISC,))
        self.same(((0, 3, 5, 0), (3, 3, 0, 24), (4, 3, 0, 24), (-4, 0, 0, 24)), ())
        self.differ(((-1, 1, 0, 24),), ())


if __name__ == "__main__":
    unittest.main()
