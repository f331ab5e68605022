import unittest

from counted import counted_border, counted_groups, drawn_sheets
from ringlayers.faces import border, holes, lands

DISC = (0, 3, 0, 24)
RING = (2, 5, 0, 24)
OVER_0 = (2, 5, 20, 7)


class LandsTest(unittest.TestCase):
    def tell(self, sheet, land_count, hole_count, border_lengths):
        with self.subTest(sheet=sheet):
            before = tuple(tuple(piece) for piece in sheet)
            for _ in range(2):
                self.assertEqual(lands(sheet), land_count)
                self.assertEqual(holes(sheet), hole_count)
                self.assertEqual(border(sheet), border_lengths)
            self.assertEqual([type(lands(sheet)), type(holes(sheet)), type(border(sheet))], [int, int, tuple])
            self.assertEqual([type(length) for length in border(sheet)], [int, int])
            self.assertEqual(sheet, before)

    def test_the_empty_sheet(self):
        self.tell((), 0, 0, (0, 0))

    def test_a_ring_round_a_free_middle(self):
        for begin in range(24):
            self.tell(((2, 5, begin, 24),), 1, 1, (24 * 7, 0))

    def test_a_disc(self):
        for begin in range(24):
            self.tell(((0, 3, begin, 24),), 1, 0, (72, 0))

    def test_an_arc(self):
        self.tell(((2, 5, 3, 4),), 1, 0, (28, 6))
        self.tell((OVER_0,), 1, 0, (49, 6))
        self.tell(((2, 5, 3, 23),), 1, 0, (161, 6))
        self.tell(((0, 4, 3, 23),), 1, 0, (92, 8))
        self.tell(((0, 1, 23, 1),), 1, 0, (1, 2))

    def test_apart(self):
        self.tell(((2, 5, 3, 4), (2, 5, 9, 1)), 2, 0, (35, 12))
        self.tell(((0, 1, 3, 4), (2, 3, 3, 4)), 2, 0, (24, 4))
        self.tell(((0, 1, 0, 24), (2, 3, 0, 24)), 2, 1, (144, 0))

    def test_touching_along_a_turn(self):
        self.tell(((2, 5, 3, 4), (2, 5, 7, 2)), 1, 0, (42, 6))
        self.tell(((2, 5, 20, 4), (2, 5, 0, 2)), 1, 0, (42, 6))
        self.tell(((2, 5, 3, 4), (4, 6, 7, 2)), 1, 0, (28 + 20, 6 + 4 - 2))
        self.tell(((0, 2, 0, 12), (0, 2, 12, 12)), 1, 0, (48, 0))

    def test_touching_along_a_ring(self):
        self.tell(((1, 2, 3, 4), (2, 5, 3, 4)), 1, 0, (24, 8))
        self.tell(((1, 2, 22, 4), (2, 5, 23, 4)), 1, 0, (12 + 28 - 2 * 2 * 3, 8))
        self.tell(((0, 2, 0, 24), (2, 5, 0, 24)), 1, 0, (120, 0))

    def test_touching_at_a_corner_only(self):
        self.tell(((1, 2, 3, 4), (2, 3, 7, 4)), 2, 0, (32, 4))
        self.tell(((1, 2, 7, 4), (2, 3, 3, 4)), 2, 0, (32, 4))
        self.tell(((1, 2, 20, 4), (2, 3, 0, 4)), 2, 0, (32, 4))

    def test_touching_at_the_middle_only(self):
        self.tell(((0, 2, 0, 6), (0, 2, 12, 6)), 2, 0, (24, 8))
        self.tell(((0, 2, 0, 6), (0, 2, 12, 6), (2, 3, 0, 24)), 1, 2, (24 + 72, 8))

    def test_what_is_not_covered_does_not_join_at_a_corner(self):
        four = ((0, 1, 4, 1), (1, 2, 3, 1), (1, 2, 5, 1), (2, 3, 4, 1))
        self.tell(four, 4, 1, (1 + 3 + 3 + 5, 8))
        self.tell(((0, 4, 0, 24),), 1, 0, (96, 0))
        # All but two cells that meet at a corner: two holes.
        cells = tuple((far, far + 1, turn, 1) for far in range(4) for turn in range(24)
                      if (far, turn) not in ((1, 3), (2, 4)))
        self.tell(cells, 1, 2, (96 + 3 + 5, 4))

    def test_a_ring_of_arcs(self):
        arcs = tuple((2, 5, 3 * place, 3) for place in range(8))
        self.tell(arcs, 1, 1, (168, 0))
        self.tell(arcs[:7], 1, 0, (147, 6))
        self.tell(arcs[1:], 1, 0, (147, 6))
        self.tell(arcs[:3] + arcs[4:7], 2, 0, (126, 12))

    def test_a_ring_of_arcs_that_overlap(self):
        self.tell(tuple((2, 5, 3 * place, 5) for place in range(8)), 1, 1, (168, 0))
        self.tell(tuple((2, 5, 3 * place, 5) for place in range(7)), 1, 0, (23 * 7, 6))

    def test_a_ring_of_arcs_that_meet_at_corners(self):
        arcs = tuple((1 + place % 2, 2 + place % 2, 3 * place, 3) for place in range(8))
        self.tell(arcs, 8, 1, (12 * 3 + 12 * 5, 16))
        self.assertEqual(holes(arcs[1:]), 0)

    def test_one_over_another(self):
        self.tell((DISC, OVER_0), 1, 0, (72 + 35 - 21, 4))
        self.tell((OVER_0, OVER_0, OVER_0), 1, 0, (49, 6))
        self.tell(((0, 9, 0, 24), OVER_0, DISC), 1, 0, (216, 0))

    def test_a_hole_within_a_hole(self):
        self.tell(((6, 7, 0, 24), (2, 3, 0, 24)), 2, 2, (24 * 18, 0))
        self.tell(((6, 7, 0, 24), (2, 3, 0, 24), (0, 1, 0, 24)), 3, 2, (24 * 19, 0))
        self.tell(((6, 7, 0, 24), (2, 3, 0, 24), (3, 6, 5, 1)), 1, 2, (24 * 18 - 9, 6))
        self.tell(((6, 7, 0, 24), (2, 3, 1, 23)), 2, 1, (24 * 13 + 23 * 5, 2))

    def test_more_and_greater_pieces(self):
        self.tell(((1000, 2000, 3, 24),), 1, 1, (24 * 3000, 0))
        self.tell(((1000, 2000, 23, 2),) * 12, 1, 0, (6000, 2000))
        great = 10 ** 20
        self.tell(((great, 3 * great, 23, 2),), 1, 0, (8 * great, 4 * great))
        self.tell(tuple((2 * far, 2 * far + 1, 0, 24) for far in range(1, 30)), 29, 29,
                  (24 * sum(range(2, 60)), 0))

    def test_as_counted_one_by_one(self):
        for most_pieces, most_outer, coarse in ((3, 4, 6), (5, 6, 4), (8, 8, 1), (8, 5, 3), (16, 9, 1)):
            for sheet in drawn_sheets(most_pieces * coarse, 60, most_pieces, most_outer, coarse):
                self.tell(sheet, counted_groups(sheet, True), counted_groups(sheet, False), counted_border(sheet))

    def test_small_pieces_as_counted_one_by_one(self):
        for sheet in drawn_sheets(77, 60, 40, 6):
            sheet = tuple((outer - 1, outer, begin, 1 + wide // 6) for inner, outer, begin, wide in sheet)
            self.tell(sheet, counted_groups(sheet, True), counted_groups(sheet, False), counted_border(sheet))

    def test_numbers_somewhat_beyond_are_not_refused(self):
        self.tell(((2, 5, 44, 7),), 1, 0, (49, 6))
        self.tell(((2, 5, -4, 7),), 1, 0, (49, 6))
        self.tell(((2, 5, 3, 30),), 1, 1, (168, 0))
        self.tell(((2, 2, 0, 24), (5, 2, 0, 24), (2, 5, 0, 0)), 0, 0, (0, 0))


if __name__ == "__main__":
    unittest.main()
