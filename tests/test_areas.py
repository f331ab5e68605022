import itertools
import unittest

from counted import drawn_sheets
from ringlayers.areas import area_of, covered_area, depth_areas, shared_area
from ringlayers.pieces import layers

RING = (2, 5, 0, 24)
DISC = (0, 3, 0, 24)
OVER_0 = (2, 5, 20, 7)


def cells_one_by_one(sheet):
    # Each whole 24th of each ring that is 1 wide, with its area in parts and with what lies there.
    farthest = max([piece[1] for piece in sheet], default=0)
    for far in range(farthest):
        for turn in range(24):
            yield 2 * far + 1, layers(sheet, ((2 * far + 1, 2), (2 * turn + 1, 2)))


def counted_depths(sheet):
    areas = [0] * len(sheet)
    for area, numbers in cells_one_by_one(sheet):
        if numbers:
            areas[len(numbers) - 1] += area
    return tuple(areas)


def counted_shared(sheet, numbers):
    return sum(area for area, there in cells_one_by_one(sheet) if set(numbers) <= set(there))


def choices(sheet):
    for count in range(1, len(sheet) + 1):
        yield from itertools.combinations(range(len(sheet)), count)


class AreaOfTest(unittest.TestCase):
    def tell(self, piece, area):
        with self.subTest(piece=piece):
            told = area_of(piece)
            self.assertIs(type(told), int)
            self.assertEqual(told, area)

    def test_one_part(self):
        self.tell((0, 1, 0, 1), 1)
        self.tell((0, 1, 23, 1), 1)

    def test_ordinary_ones(self):
        self.tell(DISC, 216)
        self.tell(RING, 504)
        self.tell(OVER_0, 147)
        self.tell((1, 2, 5, 1), 3)

    def test_the_greatest(self):
        self.tell((0, 999, 0, 24), 998001 * 24)
        self.tell((998, 999, 7, 1), 1997)

    def test_greater_ones(self):
        self.tell((5000, 9000, 5, 2), 112000000)
        self.tell((0, 10 ** 20, 5, 24), 24 * 10 ** 40)

    def test_begin_is_all_one(self):
        for begin in range(24):
            for wide in range(1, 25):
                self.tell((2, 5, begin, wide), 21 * wide)


class DepthAreasTest(unittest.TestCase):
    def tell(self, sheet, areas):
        with self.subTest(sheet=sheet):
            before = tuple(tuple(piece) for piece in sheet)
            for _ in range(2):
                told = depth_areas(sheet)
                self.assertIs(type(told), tuple)
                self.assertEqual([type(area) for area in told], [int] * len(sheet))
                self.assertEqual(told, areas)
                self.assertEqual(covered_area(sheet), sum(areas))
                self.assertIs(type(covered_area(sheet)), int)
            self.assertEqual(sheet, before)
            self.weigh(sheet)

    def weigh(self, sheet):
        weighed = sum(depth * area for depth, area in enumerate(depth_areas(sheet), start=1))
        self.assertEqual(weighed, sum(area_of(piece) for piece in sheet), sheet)

    def test_the_empty_sheet(self):
        self.tell((), ())
        self.assertEqual(covered_area(()), 0)

    def test_one_piece(self):
        for piece in (DISC, RING, OVER_0, (0, 1, 0, 1), (998, 999, 23, 24), (0, 999, 0, 24)):
            self.tell((piece,), (area_of(piece),))

    def test_the_documents_example(self):
        self.tell((DISC, OVER_0), (216 + 147 - 70, 35))

    def test_apart(self):
        self.tell(((0, 2, 0, 24), (3, 5, 0, 24)), (96 + 384, 0))
        self.tell(((0, 2, 0, 5), (0, 2, 10, 5)), (40, 0))
        self.tell(((0, 2, 0, 5), (4, 5, 10, 5), (7, 8, 3, 2)), (20 + 45 + 30, 0, 0))

    def test_side_by_side(self):
        self.tell(((0, 2, 0, 24), (2, 5, 0, 24)), (600, 0))
        self.tell(((0, 2, 0, 5), (0, 2, 5, 5)), (40, 0))
        self.tell(((0, 2, 20, 4), (0, 2, 0, 4)), (32, 0))

    def test_one_within_another(self):
        self.tell(((0, 5, 0, 24), (2, 3, 4, 2)), (600 - 10, 10))
        self.tell(((2, 3, 4, 2), (0, 5, 0, 24)), (600 - 10, 10))
        self.tell(((0, 5, 0, 24), (1, 4, 2, 8), (2, 3, 4, 2)), (600 - 120, 120 - 10, 10))

    def test_across_one_another(self):
        self.tell(((0, 4, 0, 4), (2, 5, 2, 4)), (64 + 84 - 48, 24))
        self.tell(((0, 10, 5, 2), (4, 6, 0, 24)), (200 + 480 - 80, 40))

    def test_the_same_twice(self):
        self.tell((OVER_0, OVER_0), (0, 147))
        self.tell((OVER_0,) * 8, (0,) * 7 + (147,))
        self.tell((OVER_0, DISC, OVER_0), (181, 112, 35))

    def test_over_turn_0(self):
        self.tell(((0, 1, 23, 2), (0, 1, 0, 1)), (1, 1))
        self.tell(((0, 1, 23, 2), (0, 1, 23, 1)), (1, 1))
        self.tell(((0, 1, 22, 5), (0, 1, 20, 6)), (3, 4))
        self.tell(((0, 1, 20, 4), (0, 1, 0, 4)), (8, 0))

    def test_whole_rings(self):
        for begin in range(24):
            self.tell(((2, 5, begin, 24), RING), (0, 504))
            self.tell(((2, 5, begin, 24), (3, 4, 23 - begin, 24)), (504 - 168, 168))

    def test_two_wide_arcs_that_meet_twice(self):
        self.tell(((0, 1, 0, 20), (0, 1, 12, 20)), (8, 16))
        self.tell(((0, 1, 6, 23), (0, 1, 18, 23)), (2, 22))

    def test_more_than_eight_pieces(self):
        self.tell((OVER_0,) * 20, (0,) * 19 + (147,))
        self.tell(tuple((far, far + 1, 0, 24) for far in range(50)), (24 * 2500,) + (0,) * 49)
        self.tell(tuple((0, far, 0, 24) for far in range(1, 13)),
                  tuple(24 * (2 * far - 1) for far in range(12, 0, -1)))

    def test_numbers_above_999(self):
        self.tell(((0, 2000, 0, 24), (1000, 3000, 20, 8)),
                  (24 * 2000 ** 2 + 8 * (3000 ** 2 - 1000 ** 2) - 16 * (2000 ** 2 - 1000 ** 2),
                   8 * (2000 ** 2 - 1000 ** 2)))
        great = 10 ** 15
        self.tell(((0, 2 * great, 0, 1), (great, 2 * great, 0, 2)), (4 * great ** 2, 3 * great ** 2))

    def test_as_counted_one_by_one(self):
        for most_pieces, most_outer in ((2, 4), (4, 6), (8, 10), (20, 12)):
            for sheet in drawn_sheets(most_pieces, 60, most_pieces, most_outer):
                self.tell(sheet, counted_depths(sheet))

    def test_every_two_arcs(self):
        for begin in range(24):
            for wide in range(1, 25):
                for other_wide in (1, 2, 12, 13, 23, 24):
                    sheet = ((0, 1, 0, other_wide), (0, 1, begin, wide))
                    first = set(range(other_wide))
                    second = set((begin + step) % 24 for step in range(wide))
                    self.assertEqual(depth_areas(sheet), (len(first ^ second), len(first & second)), sheet)

    def test_every_two_rings(self):
        rings = [(inner, outer) for outer in range(1, 6) for inner in range(outer)]
        for one, other in itertools.product(rings, rings):
            sheet = (one + (22, 3), other + (23, 3))
            self.assertEqual(depth_areas(sheet), counted_depths(sheet), sheet)

    def test_pieces_taken_in_any_order(self):
        sheet = (DISC, OVER_0, (1, 4, 3, 9))
        for other in itertools.permutations(sheet):
            self.assertEqual(depth_areas(other), depth_areas(sheet))

    def test_great_random_sheets(self):
        for sheet in drawn_sheets(99, 60, 40, 5000):
            self.weigh(sheet)

    def test_numbers_somewhat_beyond_are_not_refused(self):
        self.assertEqual(depth_areas(((0, 2, 25, 2), (0, 2, -1, 3))), (12, 4))
        self.assertEqual(depth_areas(((0, 2, 3, 25),)), (96,))
        self.assertEqual(depth_areas(((0, 2, 3, 0), (0, 2, 3, 1))), (4, 0))
        self.assertEqual(depth_areas(((2, 2, 0, 24), (0, 3, 0, 24))), (216, 0))
        self.assertEqual(depth_areas(((3, 2, 0, 24), (0, 4, 0, 24))), (384, 0))
        self.assertEqual(depth_areas(((-2, 1, 0, 24), (0, 2, 0, 24))), (72, 24))
        self.assertEqual(depth_areas(((-2, 0, 0, 24),)), (0,))


class SharedAreaTest(unittest.TestCase):
    def tell(self, sheet, numbers, area):
        with self.subTest(sheet=sheet, numbers=numbers):
            before = (tuple(tuple(piece) for piece in sheet), tuple(numbers))
            for _ in range(2):
                told = shared_area(sheet, numbers)
                self.assertIs(type(told), int)
                self.assertEqual(told, area)
            self.assertEqual((sheet, numbers), before)

    def add_and_take_away(self, sheet):
        # Those of one piece added, those of two taken away, those of three added, and so on.
        return sum(shared_area(sheet, numbers) * (1 if len(numbers) % 2 else -1) for numbers in choices(sheet))

    def test_one_number(self):
        sheet = (DISC, OVER_0, RING, OVER_0)
        for number, piece in enumerate(sheet):
            self.tell(sheet, (number,), area_of(piece))

    def test_several(self):
        sheet = (DISC, OVER_0, RING, (0, 9, 22, 1))
        self.tell(sheet, (0, 1), 35)
        self.tell(sheet, (0, 2), 120)
        self.tell(sheet, (1, 2), 147)
        self.tell(sheet, (0, 1, 2), 35)
        self.tell(sheet, (1, 3), 21)
        self.tell(sheet, (0, 3), 9)

    def test_all(self):
        self.tell((DISC, OVER_0, RING, (0, 9, 22, 1)), (0, 1, 2, 3), 5)
        self.tell((OVER_0,) * 8, tuple(range(8)), 147)

    def test_apart(self):
        self.tell(((0, 2, 0, 24), (3, 5, 0, 24)), (0, 1), 0)
        self.tell(((0, 2, 0, 24), (2, 5, 0, 24)), (0, 1), 0)
        self.tell(((0, 2, 0, 5), (0, 2, 5, 5)), (0, 1), 0)
        self.tell(((0, 2, 20, 4), (0, 2, 0, 4)), (0, 1), 0)
        self.tell(((0, 2, 0, 5), (4, 5, 0, 5)), (0, 1), 0)

    def test_two_by_two_but_not_all(self):
        sheet = ((0, 1, 0, 10), (0, 1, 8, 10), (0, 1, 16, 10))
        self.tell(sheet, (0, 1), 2)
        self.tell(sheet, (1, 2), 2)
        self.tell(sheet, (0, 2), 2)
        self.tell(sheet, (0, 1, 2), 0)

    def test_arcs_that_meet_in_two_places(self):
        self.tell(((0, 1, 20, 16), (0, 1, 8, 16)), (0, 1), 8)
        self.tell(((1, 3, 20, 16), (2, 5, 8, 16)), (0, 1), 40)
        self.tell(((0, 1, 6, 23), (0, 1, 18, 23)), (0, 1), 22)

    def test_the_others_do_not_count(self):
        sheet = (OVER_0, DISC, (0, 999, 0, 24), OVER_0, RING)
        self.tell(sheet, (0, 3), 147)
        self.tell(sheet, (1, 4), 120)
        self.tell(sheet, (2, 3), 147)

    def test_more_and_greater_pieces(self):
        sheet = tuple((far, 2000 + far, far, 12) for far in range(20))
        self.tell(sheet, (0, 11), 2000 ** 2 - 11 ** 2)
        self.tell(sheet, (0, 12), 0)
        self.tell(sheet, (9, 19), 2 * (2009 ** 2 - 19 ** 2))
        self.tell((OVER_0,) * 12, tuple(range(12)), 147)

    def test_as_counted_one_by_one(self):
        for sheet in drawn_sheets(5, 40, 5, 6):
            for numbers in choices(sheet):
                self.tell(sheet, numbers, counted_shared(sheet, numbers))

    def test_added_and_taken_away_in_turn(self):
        for sheet in drawn_sheets(7, 15, 8, 999):
            with self.subTest(sheet=sheet):
                self.assertEqual(self.add_and_take_away(sheet), covered_area(sheet))
        for sheet in ((), (DISC,), (OVER_0,) * 8, (DISC, OVER_0, RING), tuple((0, 5, 3 * far, 16) for far in range(8))):
            with self.subTest(sheet=sheet):
                self.assertEqual(self.add_and_take_away(sheet), covered_area(sheet))

    def test_numbers_somewhat_beyond_are_not_refused(self):
        self.assertEqual(shared_area((DISC, OVER_0), ()), 0)
        self.assertEqual(shared_area((), ()), 0)


if __name__ == "__main__":
    unittest.main()
