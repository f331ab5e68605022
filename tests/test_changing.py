import random
import unittest

from counted import covered_cells, drawn_sheets
from ringlayers.areas import area_of, covered_area, depth_areas, shared_area, unlike
from ringlayers.boards import Board
from ringlayers.changing import both_of, cut_out, grown, mirrored, plain, turned
from ringlayers.faces import border, face_count, faces, holes, lands, same_face
from ringlayers.pieces import has, layers
from ringlayers.ways import is_way, way

DISC = (0, 3, 0, 24)
RING = (2, 5, 0, 24)
OVER_0 = (2, 5, 20, 7)
SHEET = (DISC, OVER_0, (1, 7, 9, 4), (6, 8, 12, 20))


def shape(sheet):
    return (depth_areas(sheet), faces(sheet), face_count(sheet), lands(sheet), holes(sheet), border(sheet))


class ChangedTest(unittest.TestCase):
    def same_again(self, change, *handed_in):
        before = repr(handed_in)
        told = change(*handed_in)
        self.assertEqual(repr(handed_in), before)
        self.assertEqual(change(*handed_in), told)
        self.assertIs(type(told), tuple)
        for piece in told:
            self.assertIs(type(piece), tuple)
            self.assertEqual([type(part) for part in piece], [int] * 4)
        return told


class TurnedTest(ChangedTest):
    def tell(self, sheet, by, told):
        with self.subTest(sheet=sheet, by=by):
            self.assertEqual(self.same_again(turned, sheet, by), told)

    def test_by_hand(self):
        self.tell((), 5, ())
        self.tell((DISC, OVER_0), 0, (DISC, OVER_0))
        self.tell((DISC, OVER_0), 1, ((0, 3, 1, 24), (2, 5, 21, 7)))
        self.tell((DISC, OVER_0), 4, ((0, 3, 4, 24), (2, 5, 0, 7)))
        self.tell((OVER_0, OVER_0), 5, ((2, 5, 1, 7), (2, 5, 1, 7)))
        self.tell((OVER_0,), 23, ((2, 5, 19, 7),))

    def test_below_0_and_beyond_24(self):
        self.tell((OVER_0, DISC), -1, ((2, 5, 19, 7), (0, 3, 23, 24)))
        self.tell((OVER_0,), -21, ((2, 5, 23, 7),))
        self.tell((OVER_0,), 24, (OVER_0,))
        self.tell((OVER_0,), -24, (OVER_0,))
        self.tell((OVER_0,), 29, ((2, 5, 1, 7),))
        self.tell((OVER_0,), 24 * 10 ** 20 + 3, ((2, 5, 23, 7),))
        self.tell((OVER_0,), -24 * 10 ** 20 - 21, ((2, 5, 23, 7),))

    def test_there_and_back(self):
        for by in range(-50, 51):
            self.tell(turned(SHEET, by), -by, SHEET)

    def test_all_stays(self):
        for by, sheet in enumerate(drawn_sheets(11, 60, 8, 6), start=-30):
            with self.subTest(sheet=sheet, by=by):
                self.assertEqual(shape(turned(sheet, by)), shape(sheet))

    def test_points_go_with_it(self):
        for by in (-5, 1, 12, 30):
            for point in (((5, 2), (1, 3)), ((2, 1), (20, 1)), ((4, 1), (3, 1))):
                far, (upper, lower) = point
                there = (far, ((upper + by * lower) % (24 * lower), lower))
                self.assertEqual(layers(turned(SHEET, by), there), layers(SHEET, point))


class MirroredTest(ChangedTest):
    def tell(self, sheet, told):
        with self.subTest(sheet=sheet):
            self.assertEqual(self.same_again(mirrored, sheet), told)
            self.assertEqual(mirrored(told), sheet)

    def test_by_hand(self):
        self.tell((), ())
        self.tell((DISC,), (DISC,))
        self.tell((OVER_0,), ((2, 5, 21, 7),))
        self.tell(((0, 3, 5, 24),), ((0, 3, 19, 24),))
        self.tell(((0, 3, 0, 1),), ((0, 3, 23, 1),))
        self.tell(((0, 3, 1, 4), (0, 2, 10, 3)), ((0, 3, 19, 4), (0, 2, 11, 3)))
        self.tell(((0, 3, 20, 4), (0, 3, 20, 4)), ((0, 3, 0, 4), (0, 3, 0, 4)))
        self.tell(((0, 3, 23, 24),), ((0, 3, 1, 24),))

    def test_begins_are_from_0_to_23(self):
        for begin in range(24):
            for wide in range(1, 25):
                self.tell(((1, 2, begin, wide),), ((1, 2, (48 - begin - wide) % 24, wide),))

    def test_all_stays(self):
        for sheet in drawn_sheets(12, 60, 8, 6):
            with self.subTest(sheet=sheet):
                self.assertEqual(shape(mirrored(sheet)), shape(sheet))

    def test_points_go_with_it(self):
        for turn in range(24):
            for far in range(9):
                point, there = (((2 * far + 1, 2), (2 * place + 1, 2)) for place in (turn, 23 - turn))
                self.assertEqual(layers(mirrored(SHEET), there), layers(SHEET, point))


class GrownTest(ChangedTest):
    def tell(self, sheet, times, told):
        with self.subTest(sheet=sheet, times=times):
            self.assertEqual(self.same_again(grown, sheet, times), told)

    def test_by_hand(self):
        self.tell((), 3, ())
        self.tell(SHEET, 1, SHEET)
        self.tell((DISC, OVER_0), 2, ((0, 6, 0, 24), (4, 10, 20, 7)))
        self.tell((DISC, OVER_0), 9, ((0, 27, 0, 24), (18, 45, 20, 7)))
        self.tell(((998, 999, 23, 1),), 9, ((8982, 8991, 23, 1),))

    def test_areas_and_borders_grow(self):
        for place, sheet in enumerate(drawn_sheets(13, 63, 8, 6)):
            times = 1 + place % 9
            with self.subTest(sheet=sheet, times=times):
                areas, told, count, land_count, hole_count, lengths = shape(sheet)
                self.assertEqual(shape(grown(sheet, times)), (
                    tuple(area * times * times for area in areas),
                    tuple((numbers, area * times * times) for numbers, area in told),
                    count, land_count, hole_count, tuple(length * times for length in lengths)))

    def test_numbers_somewhat_beyond_are_not_refused(self):
        self.tell((OVER_0,), 10, ((20, 50, 20, 7),))


class CutTest(ChangedTest):
    def covers(self, told, cells):
        farthest = max([piece[1] for piece in told], default=0)
        self.assertEqual(cells_of(told), cells)
        self.assertEqual(depth_areas(told)[1:], (0,) * (len(told) - 1))
        self.assertEqual(covered_area(told), sum(2 * far + 1 for far, turn in cells))
        self.assertLessEqual(max([far for far, turn in cells], default=0), farthest)
        for piece in told:
            inner, outer, begin, wide = piece
            self.assertTrue(0 <= inner < outer and 0 <= begin < 24 and 1 <= wide <= 24, piece)

    def tell(self, one, other):
        with self.subTest(one=one, other=other):
            here, there = cells_of(one), cells_of(other)
            shared = self.same_again(both_of, one, other)
            left = self.same_again(cut_out, one, other)
            self.covers(shared, here & there)
            self.covers(left, here - there)
            self.covers(self.same_again(plain, one), here)
            self.assertIsNone(unlike(plain(one), one))
            self.assertIsNone(unlike(shared + left, one))
            self.assertEqual(covered_area(shared) + covered_area(left), covered_area(one))
            self.covers(shared + left, here)

    def both_ways(self, one, other):
        self.tell(one, other)
        self.tell(other, one)

    def test_empty_sheets(self):
        self.both_ways((), ())
        self.both_ways((), SHEET)
        self.both_ways((), (DISC,))
        self.assertEqual((plain(()), both_of((), SHEET), both_of(SHEET, ()), cut_out((), SHEET)), ((),) * 4)

    def test_a_sheet_with_itself(self):
        for sheet in ((DISC,), (RING,), (OVER_0,), SHEET, SHEET + SHEET, (OVER_0,) * 8):
            self.tell(sheet, sheet)
            self.assertEqual(cut_out(sheet, sheet), ())

    def test_apart(self):
        self.both_ways(((0, 2, 0, 24),), ((2, 3, 0, 24),))
        self.both_ways(((0, 2, 0, 12),), ((0, 2, 12, 12),))
        self.both_ways(((0, 2, 20, 4),), ((0, 2, 0, 4),))
        self.assertEqual(both_of(((0, 2, 0, 12),), ((0, 2, 12, 12),)), ())

    def test_one_within_another(self):
        self.both_ways(((0, 9, 0, 24),), ((2, 4, 3, 5),))
        self.both_ways(((0, 9, 0, 24),), (RING,))
        self.both_ways((OVER_0,), ((3, 4, 23, 2),))
        self.assertEqual(cut_out(((2, 4, 3, 5),), ((0, 9, 0, 24),)), ())

    def test_across_one_another(self):
        self.both_ways((DISC,), (OVER_0,))
        self.both_ways(((0, 1, 20, 16),), ((0, 1, 8, 16),))
        self.both_ways(((0, 10, 5, 2),), ((4, 6, 0, 24),))
        self.both_ways(SHEET, ((0, 9, 22, 14), (3, 4, 0, 24)))

    def test_runs_about_turn_0(self):
        for begin in range(24):
            for wide in (1, 2, 12, 23, 24):
                self.tell(((1, 2, begin, wide),), ((0, 3, 22, 4),))
                self.tell(((0, 3, 22, 4), (1, 2, 5, 1)), ((1, 2, begin, wide),))

    def test_every_other_turn(self):
        self.tell(tuple((0, 2, turn, 1) for turn in range(0, 24, 2)), ((0, 1, 0, 24),))
        self.tell(tuple((0, 2, turn, 1) for turn in range(1, 24, 2)), ((0, 1, 0, 24),))

    def test_the_same_place_often(self):
        self.tell((OVER_0,) * 8, (DISC,) * 8)
        self.assertEqual(depth_areas(plain((OVER_0,) * 8)[:1]), (147,))

    def test_by_lot(self):
        for most_pieces, coarse in ((2, 6), (5, 3), (8, 1), (20, 2)):
            sheets = list(drawn_sheets(40 + coarse, 60, most_pieces, 6, coarse))
            for one, other in zip(sheets, sheets[1:]):
                self.tell(one, other)

    def test_greater_pieces(self):
        great = 10 ** 20
        one, other = ((0, 2 * great, 0, 24),), ((great, 3 * great, 20, 6),)
        self.assertEqual(covered_area(both_of(one, other)), 18 * great ** 2)
        self.assertEqual(covered_area(cut_out(one, other)), 78 * great ** 2)
        self.assertEqual(covered_area(cut_out(other, one)), 30 * great ** 2)
        self.assertIsNone(unlike(plain(one + other), one + other))

    def test_what_is_told_is_taken_again(self):
        draw = random.Random(3)
        sheets = list(drawn_sheets(14, 30, 8, 40))
        for one, other in zip(sheets, sheets[1:]):
            for sheet in (plain(one + other), both_of(one, other), cut_out(one, other)):
                with self.subTest(sheet=sheet):
                    self.take(sheet, draw)

    def take(self, sheet, draw):
        self.assertEqual(sum(area_of(piece) for piece in sheet), covered_area(sheet))
        self.assertEqual(shape(turned(mirrored(sheet), 5)), shape(sheet))
        self.assertEqual(border(grown(sheet, 9)), tuple(9 * length for length in border(sheet)))
        for change in (plain(sheet), both_of(sheet, sheet), cut_out(sheet, ())):
            self.assertIsNone(unlike(change, sheet))
        board = Board()
        for number, piece in enumerate(sheet):
            self.assertEqual(board.put_in(piece), number)
            self.assertEqual(shared_area(sheet, (number,)), area_of(piece))
        self.assertEqual((board.sheet(), board.area()), (sheet, covered_area(sheet)))
        one, other = [((draw.randint(1, 199), 4), (draw.randint(0, 23), 1)) for _ in range(2)]
        one, other = [((2 * (far // 2) + 1, 4), turn) for (far, _), turn in (one, other)]
        self.assertEqual(board.layers_at(one), tuple(number for number in range(len(sheet)) if has(sheet[number], one)))
        moves = way(sheet, one, other)
        self.assertIs(same_face(sheet, one, other), moves is not None)
        self.assertIs(is_way(sheet, one, other, moves), moves is not None)

    def test_numbers_somewhat_beyond_are_not_refused(self):
        for odd, even in (((0, 3, 25, 2), (0, 3, 1, 2)), ((0, 3, -1, 2), (0, 3, 23, 2)), ((0, 3, 5, 30), DISC)):
            self.assertIsNone(unlike(plain((odd,)), (even,)))
            self.assertIsNone(unlike(both_of((odd,), SHEET), both_of((even,), SHEET)))
            self.assertIsNone(unlike(cut_out(SHEET, (odd,)), cut_out(SHEET, (even,))))
            self.assertEqual(plain(plain((odd,))), plain((odd,)))
        self.assertEqual(plain(((3, 3, 0, 24), (4, 3, 0, 24), (0, 3, 5, 0))), ())


def cells_of(sheet):
    return {cell for cell, covered in covered_cells(sheet).items() if covered}


if __name__ == "__main__":
    unittest.main()
