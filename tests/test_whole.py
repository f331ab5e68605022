import importlib
import inspect
import itertools
import random
import unittest

from counted import drawn_sheets
from ringlayers.areas import area_of, covered_area, depth_areas, shared_area, unlike
from ringlayers.boards import Board
from ringlayers.changing import both_of, cut_out, grown, mirrored, plain, turned
from ringlayers.faces import border, face_count, faces, holes, lands, same_face
from ringlayers.pieces import has, is_point, is_sheet, layers
from ringlayers.reading import read
from ringlayers.ways import is_way, way
from ringlayers.writing import written

SHEETS = [sheet for coarse, most_outer in ((1, 999), (6, 5), (3, 12))
          for sheet in drawn_sheets(coarse, 20, 8, most_outer, coarse)] + [()]

INTERFACE = {
    "pieces": {"is_sheet": "thing", "is_point": "thing", "has": "piece, point", "layers": "sheet, point"},
    "writing": {"written": "sheet"},
    "reading": {"read": "text"},
    "areas": {"area_of": "piece", "depth_areas": "sheet", "covered_area": "sheet",
              "shared_area": "sheet, numbers", "unlike": "one, other"},
    "faces": {"faces": "sheet", "face_count": "sheet", "lands": "sheet", "holes": "sheet", "border": "sheet",
              "same_face": "sheet, one, other"},
    "ways": {"way": "sheet, one, other", "is_way": "sheet, one, other, thing"},
    "changing": {"turned": "sheet, by", "mirrored": "sheet", "grown": "sheet, times", "plain": "sheet",
                 "both_of": "one, other", "cut_out": "one, other"},
}
METHODS = {"put_in": "piece", "take_out": "number", "numbers": "", "sheet": "", "layers_at": "point", "area": "",
           "depth_area": "k"}


def points_for(sheet, draw, count):
    # Some of them at edges, some of them near the middle, some of them beyond all pieces.
    fars = sorted({far for piece in sheet for far in piece[:2]} - {0}) + [1]
    for _ in range(count):
        far = 2 * draw.choice(fars) + draw.choice((-1, 0, 0, 1))
        turn = draw.randrange(48)
        yield tuple((upper // 2, 1) if upper % 2 == 0 else (upper, 2) for upper in (far, turn))


class InterfaceTest(unittest.TestCase):
    def arguments(self, function):
        return ", ".join(inspect.signature(function).parameters)

    def test_functions_and_their_arguments(self):
        for module, functions in INTERFACE.items():
            for name, arguments in functions.items():
                with self.subTest(module=module, name=name):
                    function = getattr(importlib.import_module("ringlayers." + module), name)
                    self.assertEqual(self.arguments(function), arguments)

    def test_the_board_and_its_methods(self):
        self.assertEqual(self.arguments(Board), "")
        for name, arguments in METHODS.items():
            with self.subTest(name=name):
                self.assertEqual(self.arguments(getattr(Board(), name)), arguments)


class WholeTest(unittest.TestCase):
    def for_all(self):
        for sheet in SHEETS:
            with self.subTest(sheet=sheet):
                yield sheet

    def test_a_sheet_and_its_text(self):
        for sheet in self.for_all():
            self.assertIs(is_sheet(sheet), True)
            self.assertEqual(read(written(sheet)), sheet)
            self.assertEqual(written(read(written(sheet))), written(sheet))

    def test_areas_come_to_one_another(self):
        for sheet in self.for_all():
            areas = depth_areas(sheet)
            self.assertEqual(sum(k * area for k, area in enumerate(areas, start=1)), sum(map(area_of, sheet)))
            in_turn = 0
            for count in range(1, len(sheet) + 1):
                for numbers in itertools.combinations(range(len(sheet)), count):
                    in_turn += (-1) ** (count + 1) * shared_area(sheet, numbers)
            self.assertEqual(in_turn, covered_area(sheet))

    def test_faces_have_all_area(self):
        for sheet in self.for_all():
            told = faces(sheet)
            self.assertEqual(face_count(sheet), len(told) + 1)
            areas = [0] * len(sheet)
            for numbers, area in told:
                self.assertGreater(area, 0)
                if numbers:
                    areas[len(numbers) - 1] += area
            self.assertEqual(tuple(areas), depth_areas(sheet))
            # Closed by a ring about it, all faces but the outermost are told: together they are the disc.
            farthest = max([piece[1] for piece in sheet], default=0)
            closed = sheet + ((farthest + 1, farthest + 2, 0, 24),)
            self.assertEqual(sum(area for numbers, area in faces(closed)), 24 * (farthest + 2) ** 2)

    def test_one_face_just_if_a_way_shows_it(self):
        draw = random.Random(1)
        for sheet in self.for_all():
            points = list(points_for(sheet, draw, 6))
            for one, other in itertools.product(points, points):
                self.assertTrue(is_point(one))
                moves = way(sheet, one, other)
                self.assertIs(same_face(sheet, one, other), moves is not None)
                self.assertIs(is_way(sheet, one, other, moves), moves is not None)
                if moves is not None:
                    self.assertEqual(layers(sheet, one), layers(sheet, other))

    def test_two_sheets_cover_the_same_or_a_point_tells(self):
        for one, other in zip(SHEETS, SHEETS[1:]):
            point = unlike(one, other)
            if point is None:
                self.assertEqual(cut_out(one, other) + cut_out(other, one), ())
            else:
                self.assertNotEqual(layers(one, point) == (), layers(other, point) == ())

    def test_boards_tell_what_sheets_tell(self):
        draw = random.Random(2)
        for sheet in self.for_all():
            board = Board()
            for piece in sheet + sheet:
                board.put_in(piece)
            for number in range(0, 2 * len(sheet), 3):
                board.take_out(number)
            left = board.sheet()
            self.assertEqual(left, tuple((sheet + sheet)[number] for number in board.numbers()))
            self.assertEqual(board.area(), covered_area(left))
            for k, area in enumerate(depth_areas(left), start=1):
                self.assertEqual(board.depth_area(k), area)
            for point in points_for(sheet, draw, 5):
                there = tuple(board.numbers()[place] for place in layers(left, point))
                self.assertEqual(board.layers_at(point), there)

    def test_turned_and_mirrored_and_grown(self):
        for sheet in self.for_all():
            for changed in (turned(sheet, 7), mirrored(sheet)):
                self.assertEqual(depth_areas(changed), depth_areas(sheet))
                self.assertEqual(faces(changed), faces(sheet))
                self.assertEqual(border(changed), border(sheet))
                self.assertEqual((lands(changed), holes(changed)), (lands(sheet), holes(sheet)))
            great = grown(sheet, 9)
            self.assertEqual(covered_area(great), 81 * covered_area(sheet))
            self.assertEqual(border(great), tuple(9 * length for length in border(sheet)))

    def test_what_is_cut_and_what_is_kept(self):
        for one, other in zip(SHEETS, SHEETS[1:]):
            shared, left = both_of(one, other), cut_out(one, other)
            self.assertEqual(both_of(shared, left), ())
            self.assertIsNone(unlike(shared + left, one))
            self.assertIsNone(unlike(plain(one), one))

    def test_nothing_but_tuples_and_their_parts_is_told(self):
        draw = random.Random(3)
        for sheet in self.for_all():
            one, other = points_for(sheet, draw, 2)
            told = [layers(sheet, one), written(sheet), read(written(sheet)), depth_areas(sheet), covered_area(sheet),
                    unlike(sheet, ()), faces(sheet), face_count(sheet), lands(sheet), holes(sheet), border(sheet),
                    same_face(sheet, one, other), way(sheet, one, other), way(sheet, one, one), turned(sheet, -3),
                    mirrored(sheet), grown(sheet, 3), plain(sheet), both_of(sheet, sheet), cut_out(sheet, sheet[:1])]
            told.extend([has(piece, one) for piece in sheet])
            for thing in told:
                self.plain_parts(thing)

    def plain_parts(self, thing):
        self.assertIn(type(thing), (tuple, str, int, bool, type(None)))
        if type(thing) is tuple:
            for part in thing:
                self.plain_parts(part)


if __name__ == "__main__":
    unittest.main()
