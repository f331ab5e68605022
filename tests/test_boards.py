import random
import unittest

from counted import drawn_sheets, point_at
from ringlayers.areas import covered_area, depth_areas
from ringlayers.boards import Board
from ringlayers.errors import NoPiece, NoText, RingError
from ringlayers.pieces import layers

DISC = (0, 3, 0, 24)
RING = (2, 5, 0, 24)
OVER_0 = (2, 5, 20, 7)
POINTS = [((2 * far + 1, 4), (2 * turn + 1, 3)) for far in range(12) for turn in range(0, 36, 5)]
POINTS += [point_at(far, turn) for far in (1, 2, 3, 5) for turn in (0, 3, 20)]


class BoardTest(unittest.TestCase):
    def holds(self, board, kept):
        # Kept: number and piece of all that ought to be there, rising.
        for _ in range(2):
            numbers = tuple(number for number, piece in kept)
            sheet = tuple(piece for number, piece in kept)
            self.assertEqual(board.numbers(), numbers)
            self.assertEqual(board.sheet(), sheet)
            self.assertEqual(board.area(), covered_area(sheet))
            areas = depth_areas(sheet) + (0, 0, 0)
            for k, area in enumerate(areas, start=1):
                self.assertEqual(board.depth_area(k), area)
            for point in POINTS:
                self.assertEqual(board.layers_at(point), tuple(numbers[place] for place in layers(sheet, point)))
        told = [board.numbers(), board.sheet(), board.layers_at(POINTS[0]), board.area(), board.depth_area(1)]
        self.assertEqual([type(thing) for thing in told], [tuple, tuple, tuple, int, int])

    def refuses(self, board, number):
        for error in (NoPiece, RingError, ValueError):
            with self.assertRaises(error):
                board.take_out(number)
        try:
            board.take_out(number)
        except RingError as refusal:
            self.assertIs(type(refusal), NoPiece)
            self.assertNotIsInstance(refusal, NoText)

    def test_empty_at_first(self):
        board = Board()
        self.holds(board, [])
        self.assertEqual((board.numbers(), board.sheet(), board.area(), board.depth_area(1)), ((), (), 0, 0))
        self.assertEqual(board.layers_at(point_at(1, 0)), ())

    def test_numbers_from_0_on(self):
        board = Board()
        kept = []
        for number, piece in enumerate((DISC, OVER_0, DISC, RING)):
            told = board.put_in(piece)
            self.assertIs(type(told), int)
            self.assertEqual(told, number)
            kept.append((number, piece))
            self.holds(board, kept)

    def test_never_one_again(self):
        board = Board()
        for number in range(5):
            self.assertEqual(board.put_in(DISC), number)
            self.assertIsNone(board.take_out(number))
            self.holds(board, [])
        self.assertEqual(board.put_in(RING), 5)
        self.assertEqual(board.put_in(OVER_0), 6)
        self.assertIsNone(board.take_out(5))
        self.holds(board, [(6, OVER_0)])
        self.assertIsNone(board.take_out(6))
        self.assertEqual(board.put_in(OVER_0), 7)
        self.holds(board, [(7, OVER_0)])

    def test_by_hand(self):
        board = Board()
        board.put_in(DISC)
        board.put_in(OVER_0)
        self.assertEqual((board.area(), board.depth_area(1), board.depth_area(2)), (328, 293, 35))
        self.assertEqual(board.layers_at(((5, 2), (1, 3))), (0, 1))
        board.take_out(0)
        self.assertEqual((board.area(), board.depth_area(1), board.depth_area(2)), (147, 147, 0))
        self.assertEqual(board.layers_at(((5, 2), (1, 3))), (1,))
        self.assertEqual(board.layers_at(((5, 2), (10, 1))), ())
        board.put_in(OVER_0)
        self.assertEqual(board.layers_at(((5, 2), (1, 3))), (1, 2))
        self.assertEqual((board.area(), board.depth_area(1), board.depth_area(2)), (147, 0, 147))

    def test_take_out_tells_none(self):
        board = Board()
        board.put_in(DISC)
        self.assertIsNone(board.take_out(0))

    def test_a_number_that_was_never_there(self):
        board = Board()
        for number in (0, 1, -1, 10 ** 20):
            self.refuses(board, number)
            self.holds(board, [])
        self.assertEqual(board.put_in(DISC), 0)
        for number in (1, 2, -1, -2, 8, 10 ** 20):
            self.refuses(board, number)
            self.holds(board, [(0, DISC)])
        self.assertEqual(board.put_in(RING), 1)

    def test_a_number_that_is_there_no_more(self):
        board = Board()
        for piece in (DISC, OVER_0, RING):
            board.put_in(piece)
        board.take_out(1)
        self.refuses(board, 1)
        self.holds(board, [(0, DISC), (2, RING)])
        board.take_out(2)
        for number in (1, 2, 3, -1):
            self.refuses(board, number)
        self.holds(board, [(0, DISC)])
        self.assertEqual(board.put_in(OVER_0), 3)
        self.refuses(board, 2)
        self.holds(board, [(0, DISC), (3, OVER_0)])

    def test_the_same_piece_twice(self):
        board = Board()
        board.put_in(OVER_0)
        board.put_in(OVER_0)
        self.holds(board, [(0, OVER_0), (1, OVER_0)])
        board.take_out(0)
        self.holds(board, [(1, OVER_0)])

    def test_beside_one_another(self):
        one, other = Board(), Board()
        self.assertEqual(one.put_in(DISC), 0)
        self.assertEqual(other.put_in(RING), 0)
        self.assertEqual(one.put_in(OVER_0), 1)
        self.holds(one, [(0, DISC), (1, OVER_0)])
        self.holds(other, [(0, RING)])
        other.take_out(0)
        self.holds(one, [(0, DISC), (1, OVER_0)])
        self.refuses(other, 1)
        self.assertEqual(other.put_in(RING), 1)
        self.holds(Board(), [])

    def test_what_was_told_stays(self):
        board = Board()
        board.put_in(DISC)
        numbers, sheet = board.numbers(), board.sheet()
        board.put_in(OVER_0)
        board.take_out(0)
        self.assertEqual((numbers, sheet), ((0,), (DISC,)))

    def test_more_than_eight_pieces_and_greater_ones(self):
        board = Board()
        kept = [(number, (number, 1000 + number, number % 24, 20)) for number in range(40)]
        for number, piece in kept:
            self.assertEqual(board.put_in(piece), number)
        self.holds(board, kept)
        for number in range(0, 40, 3):
            board.take_out(number)
        self.holds(board, [pair for pair in kept if pair[0] % 3])

    def test_put_in_and_taken_out_by_lot(self):
        draw = random.Random(31)
        for pieces in drawn_sheets(31, 12, 14, 6, 2):
            board, kept = Board(), {}
            for number, piece in enumerate(pieces):
                self.assertEqual(board.put_in(piece), number)
                kept[number] = piece
                if draw.random() < 0.5:
                    gone = draw.choice(sorted(kept))
                    self.assertIsNone(board.take_out(gone))
                    del kept[gone]
                    self.refuses(board, gone)
                self.holds(board, sorted(kept.items()))

    def test_numbers_somewhat_beyond_are_not_refused(self):
        board = Board()
        board.put_in(DISC)
        board.put_in((0, 3, 25, 2))
        self.assertEqual(board.depth_area(0), 0)
        self.assertEqual(board.depth_area(-1), 0)
        self.assertEqual(board.depth_area(10 ** 20), 0)
        self.assertEqual(board.depth_area(2), 18)


if __name__ == "__main__":
    unittest.main()
