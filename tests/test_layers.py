import unittest
from fractions import Fraction

from counted import point_at
from ringlayers.pieces import has, is_point, layers

FINE = 10 ** 12


def beside(number):
    return (number - Fraction(1, FINE), number + Fraction(1, FINE))


def walked_turns(begin, wide):
    # The whole 24ths that a piece runs through, counted one by one.
    return [(begin + step) % 24 for step in range(wide)]


class HasTest(unittest.TestCase):
    def tell(self, piece, far, turn, answer):
        with self.subTest(piece=piece, far=far, turn=turn):
            point = point_at(far, turn)
            self.assertTrue(is_point(point))
            self.assertIs(has(piece, point), answer)

    def test_at_inner_and_outer(self):
        piece = (2, 5, 3, 4)
        below, above = beside(Fraction(2))
        self.tell(piece, 2, 4, True)
        self.tell(piece, below, 4, False)
        self.tell(piece, above, 4, True)
        below, above = beside(Fraction(5))
        self.tell(piece, 5, 4, False)
        self.tell(piece, below, 4, True)
        self.tell(piece, above, 4, False)

    def test_far_off(self):
        piece = (2, 5, 3, 4)
        for far, answer in ((Fraction(1, FINE), False), (1, False), (3, True), (4, True), (6, False), (FINE, False)):
            self.tell(piece, far, 4, answer)

    def test_near_the_middle(self):
        self.tell((0, 1, 0, 24), Fraction(1, FINE), 0, True)
        self.tell((1, 2, 0, 24), Fraction(1, FINE), 0, False)

    def test_at_begin_and_at_the_end(self):
        piece = (2, 5, 3, 4)
        below, above = beside(Fraction(3))
        self.tell(piece, 3, 3, True)
        self.tell(piece, 3, below, False)
        self.tell(piece, 3, above, True)
        below, above = beside(Fraction(7))
        self.tell(piece, 3, 7, False)
        self.tell(piece, 3, below, True)
        self.tell(piece, 3, above, False)

    def test_over_the_whole_turn(self):
        piece = (2, 5, 20, 7)
        below, above = beside(Fraction(20))
        self.tell(piece, 3, 20, True)
        self.tell(piece, 3, below, False)
        self.tell(piece, 3, above, True)
        self.tell(piece, 3, beside(Fraction(24))[0], True)
        self.tell(piece, 3, 0, True)
        self.tell(piece, 3, beside(Fraction(0))[1], True)
        below, above = beside(Fraction(3))
        self.tell(piece, 3, below, True)
        self.tell(piece, 3, 3, False)
        self.tell(piece, 3, above, False)
        self.tell(piece, 3, 12, False)

    def test_ends_just_at_the_whole_turn(self):
        piece = (2, 5, 20, 4)
        self.tell(piece, 3, beside(Fraction(24))[0], True)
        self.tell(piece, 3, 0, False)
        self.tell(piece, 3, beside(Fraction(0))[1], False)

    def test_begins_just_at_0(self):
        piece = (2, 5, 0, 1)
        self.tell(piece, 3, 0, True)
        self.tell(piece, 3, beside(Fraction(24))[0], False)
        self.tell(piece, 3, beside(Fraction(1))[0], True)
        self.tell(piece, 3, 1, False)

    def test_wide_24_from_any_begin(self):
        for begin in range(24):
            for turn in range(24):
                self.tell((2, 5, begin, 24), 3, turn, True)
                self.tell((2, 5, begin, 24), 3, beside(Fraction(turn))[1], True)
                self.tell((2, 5, begin, 24), 5, turn, False)
            self.tell((2, 5, begin, 24), 3, beside(Fraction(24))[0], True)

    def test_wide_23_leaves_one_out(self):
        for begin in range(24):
            gap = (begin + 23) % 24
            self.tell((2, 5, begin, 23), 3, gap, False)
            self.tell((2, 5, begin, 23), 3, gap + Fraction(1, 2), False)
            self.tell((2, 5, begin, 23), 3, begin, True)

    def test_every_arc(self):
        for begin in range(24):
            for wide in range(1, 25):
                piece = (0, 1, begin, wide)
                run = walked_turns(begin, wide)
                for turn in range(24):
                    self.tell(piece, Fraction(1, 2), turn, turn in run)
                    self.tell(piece, Fraction(1, 2), turn + Fraction(2, 3), turn in run)

    def test_numbers_somewhat_beyond_are_not_refused(self):
        self.tell((2, 5, 25, 2), 3, 1, True)
        self.tell((2, 5, 25, 2), 3, 3, False)
        self.tell((2, 5, -1, 2), 3, 23, True)
        self.tell((2, 5, -1, 2), 3, 1, False)
        self.tell((2, 5, 3, 25), 3, 2, True)
        self.tell((2, 5, 3, 0), 3, 3, False)
        self.tell((5, 5, 0, 24), 5, 3, False)

    def test_greater_pieces(self):
        self.tell((5000, 9000, 5, 2), 5000, 6, True)
        self.tell((5000, 9000, 5, 2), 8999, 6, True)
        self.tell((5000, 9000, 5, 2), 9000, 6, False)
        self.tell((5000, 9000, 5, 2), beside(Fraction(5000))[0], 6, False)

    def test_same_again_and_nothing_changed(self):
        piece, point = (2, 5, 20, 7), ((5, 2), (1, 3))
        self.assertIs(has(piece, point), True)
        self.assertEqual((piece, point), ((2, 5, 20, 7), ((5, 2), (1, 3))))
        self.assertIs(has(piece, point), True)


class LayersTest(unittest.TestCase):
    def tell(self, sheet, point, answer):
        with self.subTest(sheet=sheet, point=point):
            told = layers(sheet, point)
            self.assertIsInstance(told, tuple)
            self.assertEqual(told, answer)
            self.assertTrue(all(type(number) is int for number in told))

    def test_no_pieces(self):
        self.tell((), ((1, 1), (0, 1)), ())

    def test_one_piece(self):
        self.tell(((0, 3, 0, 24),), ((5, 2), (47, 2)), (0,))
        self.tell(((0, 3, 0, 24),), ((3, 1), (47, 2)), ())

    def test_two_pieces(self):
        sheet = ((0, 3, 0, 24), (2, 5, 20, 7))
        self.tell(sheet, ((1, 1), (0, 1)), (0,))
        self.tell(sheet, ((2, 1), (0, 1)), (0, 1))
        self.tell(sheet, ((2, 1), (3, 1)), (0,))
        self.tell(sheet, ((3, 1), (5, 2)), (1,))
        self.tell(sheet, ((5, 1), (5, 2)), ())

    def test_rising_with_gaps(self):
        inside, outside = (0, 3, 0, 24), (3, 4, 0, 24)
        sheet = (outside, inside, outside, inside, inside, outside, inside, outside)
        self.tell(sheet, ((1, 1), (7, 1)), (1, 3, 4, 6))
        self.tell(sheet, ((7, 2), (7, 1)), (0, 2, 5, 7))

    def test_the_same_piece_twice(self):
        self.tell(((2, 5, 20, 7), (2, 5, 20, 7)), ((2, 1), (0, 1)), (0, 1))
        self.tell(((2, 5, 20, 7), (0, 1, 0, 1), (2, 5, 20, 7)), ((2, 1), (0, 1)), (0, 2))

    def test_more_and_greater_pieces(self):
        sheet = tuple((far, far + 2000, far % 24, 24) for far in range(30))
        self.tell(sheet, ((1, 1), (0, 1)), (0, 1))
        self.tell(sheet, ((1999, 1), (0, 1)), tuple(range(30)))
        self.tell(sheet, ((2020, 1), (0, 1)), tuple(range(21, 30)))
        self.tell(sheet, ((2029, 1), (0, 1)), ())

    def test_same_again_and_nothing_changed(self):
        sheet, point = ((0, 3, 0, 24), (2, 5, 20, 7)), ((2, 1), (0, 1))
        self.tell(sheet, point, (0, 1))
        self.assertEqual((sheet, point), (((0, 3, 0, 24), (2, 5, 20, 7)), ((2, 1), (0, 1))))
        self.tell(sheet, point, (0, 1))


if __name__ == "__main__":
    unittest.main()
