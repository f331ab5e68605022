import itertools
import random
import unittest
from fractions import Fraction

from counted import counted_faces, counted_same_face, drawn_sheets, point_at
from ringlayers.areas import covered_area
from ringlayers.faces import face_count, faces, same_face
from ringlayers.pieces import is_point, layers

DISC = (0, 3, 0, 24)
RING = (2, 5, 0, 24)
OVER_0 = (2, 5, 20, 7)


class FacesTest(unittest.TestCase):
    def tell(self, sheet, told):
        with self.subTest(sheet=sheet):
            before = tuple(tuple(piece) for piece in sheet)
            for _ in range(2):
                answer = faces(sheet)
                self.assertEqual(answer, told)
                self.assertEqual(face_count(sheet), len(told) + 1)
            self.assertIs(type(face_count(sheet)), int)
            self.kinds(answer)
            self.assertEqual(answer, tuple(sorted(answer)))
            self.assertEqual(sum(area for numbers, area in answer if numbers), covered_area(sheet))
            self.assertEqual(sheet, before)

    def kinds(self, answer):
        self.assertIs(type(answer), tuple)
        for face in answer:
            self.assertIs(type(face), tuple)
            numbers, area = face
            self.assertIs(type(numbers), tuple)
            self.assertEqual({type(number) for number in numbers + (area,)}, {int})

    def test_the_empty_sheet(self):
        self.tell((), ())
        self.assertEqual(face_count(()), 1)

    def test_a_ring_from_the_middle_on(self):
        for begin in range(24):
            self.tell(((0, 3, begin, 24),), (((0,), 216),))

    def test_a_ring_that_leaves_the_middle_free(self):
        for begin in range(24):
            self.tell(((2, 5, begin, 24),), (((), 96), ((0,), 504)))
        self.tell(((998, 999, 0, 24),), (((), 24 * 998 ** 2), ((0,), 24 * 1997)))

    def test_an_arc(self):
        self.tell(((2, 5, 3, 4),), (((0,), 84),))
        self.tell((OVER_0,), (((0,), 147),))
        self.tell(((2, 5, 3, 23),), (((0,), 483),))
        self.tell(((0, 1, 0, 1),), (((0,), 1),))
        self.tell(((0, 5, 3, 23),), (((0,), 575),))

    def test_two_arcs_apart(self):
        self.tell(((0, 2, 0, 5), (0, 2, 10, 5)), (((0,), 20), ((1,), 20)))
        self.tell(((0, 2, 10, 5), (4, 5, 10, 5)), (((0,), 20), ((1,), 45)))

    def test_one_within_another(self):
        self.tell(((0, 5, 0, 24), (2, 3, 4, 2)), (((0,), 590), ((0, 1), 10)))
        self.tell(((2, 3, 4, 2), (0, 5, 0, 24)), (((0, 1), 10), ((1,), 590)))
        self.tell((RING, (3, 4, 0, 24)), (((), 96), ((0,), 120), ((0,), 216), ((0, 1), 168)))

    def test_across_one_another(self):
        self.tell(((0, 4, 0, 4), (2, 5, 2, 4)), (((0,), 40), ((0, 1), 24), ((1,), 60)))
        self.tell(((0, 10, 5, 2), (4, 6, 0, 24)),
                  (((), 352), ((0,), 32), ((0,), 128), ((0, 1), 40), ((1,), 440)))

    def test_the_same_twice(self):
        self.tell((OVER_0, OVER_0), (((0, 1), 147),))
        self.tell((DISC, OVER_0, DISC), (((0, 1, 2), 35), ((0, 2), 181), ((1,), 112)))

    def test_arcs_that_meet_along_a_turn(self):
        self.tell(((0, 2, 0, 5), (0, 2, 5, 5)), (((0,), 20), ((1,), 20)))
        self.tell(((1, 2, 20, 4), (1, 2, 0, 4)), (((0,), 12), ((1,), 12)))
        self.tell(((1, 2, 0, 12), (1, 2, 12, 12)), (((), 24), ((0,), 36), ((1,), 36)))

    def test_arcs_that_meet_along_a_ring(self):
        self.tell(((1, 2, 20, 7), (2, 3, 20, 7)), (((0,), 21), ((1,), 35)))
        self.tell(((0, 2, 0, 24), (2, 3, 0, 24)), (((0,), 96), ((1,), 120)))

    def test_arcs_that_meet_at_a_corner_only(self):
        self.tell(((1, 2, 0, 4), (2, 3, 4, 4)), (((0,), 12), ((1,), 20)))
        self.tell(((1, 2, 4, 4), (2, 3, 0, 4)), (((0,), 12), ((1,), 20)))

    def test_the_middle_is_no_way_through(self):
        # Two wedges, and within the ring about them two more, that only the middle would join.
        self.tell(((0, 2, 0, 6), (0, 2, 12, 6), (2, 3, 0, 24)),
                  (((), 24), ((), 24), ((0,), 24), ((1,), 24), ((2,), 120)))
        self.tell(((0, 3, 0, 24), (0, 1, 0, 12), (0, 1, 6, 1), (0, 1, 20, 1)),
                  (((0,), 204 - 12 + 11), ((0, 1), 5), ((0, 1), 6), ((0, 1, 2), 1), ((0, 3), 1)))

    def test_a_face_in_two_places(self):
        # Wedges cut what lies under them and between them into parts of equal areas: each is told.
        self.tell(((0, 2, 0, 24), (0, 2, 0, 3), (0, 2, 12, 3)), (((0,), 36), ((0,), 36), ((0, 1), 12), ((0, 2), 12)))
        self.tell(((1, 2, 0, 24), (0, 3, 0, 1), (0, 3, 6, 1), (0, 3, 12, 1), (0, 3, 18, 1)),
                  (((), 5),) * 4 + (((0,), 15),) * 4
                  + tuple(((0, number), 3) for number in (1, 2, 3, 4))
                  + tuple(((number,), area) for number in (1, 2, 3, 4) for area in (1, 5)))

    def test_rising_by_numbers_before_areas(self):
        told = faces(((0, 1, 0, 2), (0, 9, 1, 2), (20, 21, 0, 24)))
        self.assertEqual(told, (((), 24 * 400 - 163), ((0,), 1), ((0, 1), 1), ((1,), 161), ((2,), 984)))

    def test_more_than_ten_numbers_rise_as_numbers(self):
        sheet = tuple((far, far + 1, 0, 24) for far in range(12))
        self.tell(sheet, tuple(((far,), 24 * (2 * far + 1)) for far in range(12)))

    def test_over_turn_0(self):
        self.tell(((0, 1, 23, 2), (0, 1, 0, 1)), (((0,), 1), ((0, 1), 1)))
        self.tell(((0, 1, 22, 5), (0, 1, 20, 6)), (((0,), 1), ((0, 1), 4), ((1,), 2)))
        self.tell(((1, 2, 12, 23), (1, 2, 11, 1)), (((), 24), ((0,), 69), ((1,), 3)))

    def test_arcs_that_meet_in_two_places(self):
        self.tell(((0, 1, 20, 16), (0, 1, 8, 16)), (((0,), 8), ((0, 1), 4), ((0, 1), 4), ((1,), 8)))

    def test_a_winding_face(self):
        # Rings with a gap each, the gaps on opposite sides: what is between them is one with the outside.
        self.tell(((1, 2, 1, 23), (3, 4, 13, 23)), (((0,), 69), ((1,), 161)))
        self.tell(((1, 2, 1, 23), (3, 4, 13, 24)), (((), 24 * 9 - 69), ((0,), 69), ((1,), 168)))

    def test_more_and_greater_pieces(self):
        self.tell(((1000, 2000, 0, 24), (500, 3000, 23, 2)),
                  (((), 24 * 10 ** 6 - 2 * 750000), ((0,), 22 * 3 * 10 ** 6), ((0, 1), 2 * 3 * 10 ** 6),
                   ((1,), 2 * 750000), ((1,), 2 * 5 * 10 ** 6)))
        self.tell((OVER_0,) * 20, ((tuple(range(20)), 147),))
        great = 10 ** 20
        self.tell(((great, 2 * great, 3, 24),), (((), 24 * great ** 2), ((0,), 72 * great ** 2)))

    def test_as_counted_one_by_one(self):
        for most_pieces, most_outer, coarse in ((3, 4, 6), (5, 6, 4), (8, 8, 1), (8, 5, 8), (16, 6, 3)):
            for sheet in drawn_sheets(most_pieces + coarse, 50, most_pieces, most_outer, coarse):
                self.tell(sheet, counted_faces(sheet))

    def test_every_two_arcs(self):
        for begin in range(24):
            for wide in (1, 5, 12, 19, 23, 24):
                for other in ((0, 2, 0, 7), (1, 3, 20, 9), (2, 3, 5, 24), (1, 2, 3, 23)):
                    sheet = (other, (1, 2, begin, wide))
                    self.assertEqual(faces(sheet), counted_faces(sheet), sheet)

    def test_numbers_somewhat_beyond_are_not_refused(self):
        self.assertEqual(faces(((0, 3, 25, 2), (0, 3, -1, 2))), (((0,), 18), ((1,), 18)))
        self.assertEqual(faces(((2, 5, 3, 25),)), faces((RING,)))
        self.assertEqual(faces(((2, 2, 0, 24), (4, 3, 0, 24), (1, 2, 3, 0))), ())
        self.assertEqual(faces(((-2, 1, 0, 24),)), (((0,), 24),))


class SameFaceTest(unittest.TestCase):
    def tell(self, sheet, one, other, answer):
        one, other = point_at(*one), point_at(*other)
        for left, right in ((one, other), (other, one)):
            with self.subTest(sheet=sheet, one=left, other=right):
                self.assertTrue(is_point(left) and is_point(right))
                before = (tuple(sheet), tuple(left), tuple(right))
                self.assertIs(same_face(sheet, left, right), answer)
                self.assertIs(same_face(sheet, left, right), answer)
                self.assertEqual((sheet, left, right), before)

    def test_the_empty_sheet(self):
        self.tell((), (1, 0), (1, 0), True)
        self.tell((), (Fraction(1, 10 ** 30), 3), (10 ** 30, Fraction(47, 2)), True)

    def test_in_one_cell(self):
        self.tell((OVER_0,), (2, 20), (Fraction(49, 10), Fraction(207, 10)), True)
        self.tell((OVER_0,), (3, 20), (3, 20), True)

    def test_in_one_piece(self):
        self.tell((OVER_0,), (2, 20), (Fraction(49, 10), Fraction(29, 10)), True)
        self.tell((RING,), (3, 0), (4, 12), True)

    def test_a_piece_has_its_inner_edge_and_its_begin(self):
        inside = (3, 22)
        self.tell((OVER_0,), (2, 22), inside, True)
        self.tell((OVER_0,), (3, 20), inside, True)
        self.tell((OVER_0,), (2, 20), inside, True)
        self.tell((OVER_0,), (Fraction(2 * 10 ** 9 - 1, 10 ** 9), 22), inside, False)
        self.tell((OVER_0,), (3, Fraction(20 * 10 ** 9 - 1, 10 ** 9)), inside, False)

    def test_but_not_its_outer_edge_and_its_end(self):
        inside, outside = (3, 22), (9, 9)
        self.tell((OVER_0,), (5, 22), inside, False)
        self.tell((OVER_0,), (3, 3), inside, False)
        self.tell((OVER_0,), (5, 22), outside, True)
        self.tell((OVER_0,), (3, 3), outside, True)
        self.tell((OVER_0,), (5, 3), outside, True)
        self.tell((OVER_0,), (Fraction(5 * 10 ** 9 - 1, 10 ** 9), 22), inside, True)
        self.tell((OVER_0,), (3, Fraction(3 * 10 ** 9 - 1, 10 ** 9)), inside, True)

    def test_on_both_sides_of_a_border(self):
        self.tell((RING,), (1, 5), (3, 5), False)
        self.tell((RING,), (3, 5), (6, 5), False)
        self.tell((OVER_0,), (3, 19), (3, 21), False)
        self.tell((OVER_0,), (3, 2), (3, 4), False)

    def test_the_same_layers_but_apart(self):
        self.tell((RING,), (1, 5), (6, 5), False)
        self.tell(((0, 2, 0, 24), (0, 2, 0, 3), (0, 2, 12, 3)), (1, 5), (1, 20), False)
        self.tell(((0, 1, 20, 16), (0, 1, 8, 16)), (Fraction(1, 2), 21), (Fraction(1, 2), 9), False)
        self.tell(((0, 3, 0, 24), (1, 2, 0, 24)), (Fraction(1, 2), 3), (2, 3), False)

    def test_round_the_middle_never_through_it(self):
        near = Fraction(1, 10 ** 20)
        self.tell(((0, 9, 0, 6), (0, 9, 12, 6)), (near, 7), (near, 19), True)
        closed = ((0, 9, 0, 6), (0, 9, 12, 6), (9, 10, 0, 24))
        self.tell(closed, (near, 7), (near, 19), False)
        self.tell(closed, (near, 7), (8, 11), True)
        self.tell(((0, 9, 0, 24), (0, 1, 0, 1), (0, 1, 12, 1)), (near, 3), (near, 15), True)
        self.tell(((0, 1, 0, 24), (0, 1, 0, 1), (0, 1, 12, 1)), (near, 3), (near, 15), False)
        self.tell(((0, 1, 0, 24),), (near, 3), (near, 15), True)

    def test_a_corner_is_no_way_through(self):
        sheet = ((0, 4, 0, 24), (1, 2, 3, 1), (2, 3, 4, 1))
        self.tell(((0, 1, 3, 1), (1, 2, 4, 1)), (Fraction(1, 2), 3), (1, 4), False)
        self.tell(sheet, (1, 3), (2, 4), False)
        self.tell(sheet, (1, 4), (2, 3), True)
        tight = ((1, 2, 3, 1), (2, 3, 4, 1), (1, 2, 5, 1), (0, 1, 4, 1))
        self.tell(tight, (1, 4), (2, 3), False)

    def test_beyond_all_pieces(self):
        for turn in range(24):
            self.tell((RING, OVER_0), (5, 0), (10 ** 9, turn), True)
        self.tell(((998, 999, 0, 24),), (999, 0), (997, 0), False)

    def test_a_long_way_round(self):
        sheet = tuple((2 * ring + 1, 2 * ring + 2, 1 + 12 * (ring % 2), 23) for ring in range(6))
        self.tell(sheet, (1, 0), (20, 20), True)
        self.tell(sheet, (Fraction(1, 2), 9), (20, 20), True)
        self.tell(sheet + ((13, 14, 0, 24),), (Fraction(1, 2), 9), (20, 20), False)

    def test_more_and_greater_pieces(self):
        self.tell(((1000, 2000, 0, 24),), (999, 0), (2000, 0), False)
        self.tell(((1000, 2000, 0, 24),), (1000, 0), (1999, 20), True)
        self.tell((OVER_0,) * 30, (3, 20), (3, 2), True)

    def test_as_counted_one_by_one(self):
        draw = random.Random(8)
        answers = []
        for sheet in drawn_sheets(3, 500, 6, 4, 3):
            one, other = [(Fraction(draw.randint(1, 20), 4), Fraction(draw.randint(0, 95), 4)) for _ in range(2)]
            answer = counted_same_face(sheet, point_at(*one), point_at(*other))
            self.tell(sheet, one, other, answer)
            if layers(sheet, point_at(*one)) == layers(sheet, point_at(*other)):
                answers.append(answer)
        self.assertGreater(answers.count(False), 3)
        self.assertGreater(answers.count(True), 3)

    def test_points_somewhat_beyond_are_not_refused(self):
        inside = ((3, 1), (22, 1))
        for turn in ((46, 1), (-2, 1)):
            self.assertIs(same_face((OVER_0,), inside, ((3, 1), turn)), True)
        for point, other in itertools.permutations((inside, ((0, 1), (0, 1)), ((-1, 2), (24, 1))), 2):
            self.assertIn(same_face((OVER_0,), point, other), (True, False))


if __name__ == "__main__":
    unittest.main()
