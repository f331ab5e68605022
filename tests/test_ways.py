import random
import unittest
from fractions import Fraction

from counted import counted_same_face, drawn_sheets, point_at, points_on
from ringlayers.faces import same_face
from ringlayers.pieces import is_point, layers
from ringlayers.ways import is_way, way

DISC = (0, 3, 0, 24)
RING = (2, 5, 0, 24)
OVER_0 = (2, 5, 20, 7)
WINDING = tuple((2 * ring + 1, 2 * ring + 2, 1 + 12 * (ring % 2), 23) for ring in range(6))


def is_fraction_pair(thing):
    return (type(thing) is tuple and [type(part) for part in thing] == [int, int] and thing[1] >= 1
            and Fraction(*thing).denominator == thing[1])


def is_one_move(thing):
    if type(thing) is not tuple or len(thing) != 2 or not is_fraction_pair(thing[1]):
        return False
    word, number = thing[0], Fraction(*thing[1])
    return type(word) is str and (word == "out" and number > 0 or word == "on" and -24 <= number <= 24)


def walked(sheet, one, other, moves):
    # Whether the moves keep the layers at all their points, and end where they ought to.
    point = one
    for move in moves:
        points = points_on(point, move)
        if any(layers(sheet, stop) != layers(sheet, one) for stop in points):
            return False
        point = points[-1]
    return point == other


def drawn_point(draw, most_far):
    parts = draw.choice((1, 2, 3, 7))
    far, turn = draw.randint(1, most_far * parts), draw.randint(0, 24 * parts - 1)
    return point_at(Fraction(far, parts), Fraction(turn, parts))


class WayTest(unittest.TestCase):
    def there_is(self, sheet, one, other):
        self.told(sheet, point_at(*one), point_at(*other), True)
        self.told(sheet, point_at(*other), point_at(*one), True)

    def there_is_none(self, sheet, one, other):
        self.told(sheet, point_at(*one), point_at(*other), False)
        self.told(sheet, point_at(*other), point_at(*one), False)

    def told(self, sheet, one, other, answer):
        with self.subTest(sheet=sheet, one=one, other=other):
            self.assertTrue(is_point(one) and is_point(other))
            before = (tuple(sheet), tuple(one), tuple(other))
            moves = way(sheet, one, other)
            self.assertEqual(way(sheet, one, other), moves)
            self.assertEqual((sheet, one, other), before)
            self.assertIs(same_face(sheet, one, other), answer)
            if not answer:
                self.assertIsNone(moves)
                return
            self.assertIs(type(moves), tuple)
            for move in moves:
                self.assertTrue(is_one_move(move), move)
            self.assertTrue(walked(sheet, one, other, moves), moves)
            self.assertIs(is_way(sheet, one, other, moves), True)

    def test_one_and_the_same_point(self):
        for sheet in ((), (DISC,), (OVER_0,), WINDING):
            for point in ((1, 0), (Fraction(1, 10 ** 20), Fraction(47, 2)), (2, 20), (99, 7)):
                self.there_is(sheet, point, point)

    def test_the_empty_sheet(self):
        self.there_is((), (1, 0), (5, 23))
        self.there_is((), (Fraction(1, 3), 12), (Fraction(10 ** 3, 7), Fraction(1, 7)))

    def test_in_one_cell(self):
        self.there_is((OVER_0,), (2, 20), (Fraction(49, 10), Fraction(209, 10)))
        self.there_is((OVER_0,), (3, 20), (3, Fraction(41, 2)))
        self.there_is((OVER_0,), (3, 20), (4, 20))

    def test_over_turn_0(self):
        self.there_is((OVER_0,), (3, 20), (4, 2))
        self.there_is((OVER_0,), (2, Fraction(71, 3)), (2, Fraction(1, 3)))
        self.there_is((OVER_0,), (3, 23), (3, 0))

    def test_on_borders(self):
        self.there_is((OVER_0,), (2, 20), (2, Fraction(8, 3)))
        self.there_is((OVER_0,), (5, 20), (3, 3))
        self.there_is((OVER_0,), (5, 3), (2, 3))
        self.there_is_none((OVER_0,), (5, 22), (4, 22))
        self.there_is_none((OVER_0,), (4, 3), (4, 2))
        self.there_is_none((OVER_0,), (2, 22), (Fraction(199, 100), 22))

    def test_the_same_layers_but_apart(self):
        self.there_is_none((RING,), (1, 5), (6, 5))
        self.there_is_none(((0, 2, 0, 24), (0, 2, 0, 3), (0, 2, 12, 3)), (1, 5), (1, 20))
        self.there_is_none(((0, 3, 0, 24), (1, 2, 3, 1), (2, 3, 4, 1)), (1, 3), (2, 4))

    def test_about_the_middle(self):
        near = Fraction(1, 10 ** 20)
        self.there_is(((0, 9, 0, 6), (0, 9, 12, 6)), (near, 7), (near, 19))
        self.there_is_none(((0, 9, 0, 6), (0, 9, 12, 6), (9, 10, 0, 24)), (near, 7), (near, 19))
        self.there_is((DISC,), (near, 0), (near, 12))
        self.there_is((RING,), (near, 0), (1, Fraction(25, 2)))

    def test_a_long_way_round(self):
        self.there_is(WINDING, (Fraction(1, 2), 9), (20, 20))
        self.there_is(WINDING, (1, 0), (11, 12))
        self.there_is(WINDING, (Fraction(5, 2), 1), (Fraction(9, 2), 23))
        self.there_is_none(WINDING + ((13, 14, 0, 24),), (Fraction(1, 2), 9), (20, 20))
        self.there_is(((2, 3, 0, 23),), (2, 0), (2, 22))
        self.there_is(((2, 3, 13, 23),), (2, Fraction(23, 2)), (2, 13))
        self.there_is(((1, 9, 0, 1), (9, 10, 0, 24), (0, 1, 0, 24)), (5, 1), (5, Fraction(95, 4)))

    def test_more_and_greater_pieces(self):
        self.there_is(((1000, 3000, 0, 23),) * 12, (1000, 0), (2999, 22))
        self.there_is_none(((1000, 10 ** 20, 0, 24),) * 12, (999, 0), (10 ** 20, 22))

    def test_as_counted_one_by_one(self):
        draw = random.Random(17)
        answers = []
        for most_outer, coarse in ((3, 6), (4, 3), (6, 1)):
            for sheet in drawn_sheets(coarse, 120, 7, most_outer, coarse):
                for _ in range(3):
                    one, other = drawn_point(draw, most_outer + 1), drawn_point(draw, most_outer + 1)
                    answers.append(counted_same_face(sheet, one, other))
                    self.told(sheet, one, other, answers[-1])
        self.assertGreater(answers.count(True), 100)
        self.assertGreater(answers.count(False), 100)

    def test_points_somewhat_beyond_are_not_refused(self):
        one, other = ((3, 1), (46, 1)), ((4, 1), (-1, 1))
        moves = way((OVER_0,), one, other)
        self.assertIs(is_way((OVER_0,), one, other, moves), True)
        self.assertIsNone(way((OVER_0,), one, ((4, 1), (-8, 1))))


class IsWayTest(unittest.TestCase):
    def tell(self, sheet, one, other, thing, answer):
        with self.subTest(sheet=sheet, one=one, other=other, thing=thing):
            self.assertIs(is_way(sheet, point_at(*one), point_at(*other), thing), answer)
            self.assertIs(is_way(sheet, point_at(*one), point_at(*other), thing), answer)

    def test_nothing_done(self):
        self.tell((OVER_0,), (3, 21), (3, 21), (), True)
        self.tell((OVER_0,), (3, 21), (4, 21), (), False)
        self.tell((OVER_0,), (3, 21), (3, 22), (), False)
        self.tell((), (3, 21), (3, 0), (), False)

    def test_plain_ones(self):
        self.tell((), (1, 0), (2, 0), (("out", (2, 1)),), True)
        self.tell((), (1, 0), (1, 5), (("on", (5, 1)),), True)
        self.tell((), (1, 0), (2, 5), (("out", (2, 1)), ("on", (5, 1))), True)
        self.tell((), (1, 0), (2, 5), (("on", (5, 1)), ("out", (2, 1))), True)
        self.tell((), (2, 5), (Fraction(1, 2), Fraction(9, 2)), (("on", (-1, 2)), ("out", (1, 2))), True)
        self.tell((OVER_0,), (2, 20), (4, Fraction(5, 2)), (("on", (13, 2)), ("out", (4, 1))), True)

    def test_moves_that_go_nowhere(self):
        self.tell((OVER_0,), (3, 21), (3, 21), (("on", (0, 1)), ("out", (3, 1))), True)
        self.tell((OVER_0,), (3, 21), (3, 21), (("out", (4, 1)), ("out", (3, 1))), True)
        self.tell((OVER_0,), (3, 21), (3, 21), (("on", (1, 1)), ("on", (-1, 1))), True)

    def test_they_end_elsewhere(self):
        self.tell((), (1, 0), (2, 0), (("out", (3, 1)),), False)
        self.tell((), (1, 0), (2, 0), (("out", (2, 1)), ("on", (1, 1))), False)
        self.tell((), (1, 0), (1, 5), (("on", (4, 1)),), False)
        self.tell((), (1, 0), (1, 5), (("on", (-5, 1)),), False)
        self.tell((), (1, 0), (1, 5), (("on", (5, 1)), ("on", (5, 1))), False)
        self.tell((), (1, 0), (1, 5), (("on", (10 ** 20 * 5 + 1, 10 ** 20)),), False)

    def test_over_turn_24_and_below_0(self):
        self.tell((), (1, 23), (1, 1), (("on", (2, 1)),), True)
        self.tell((), (1, 23), (1, 1), (("on", (-22, 1)),), True)
        self.tell((), (1, 1), (1, 23), (("on", (-2, 1)),), True)
        self.tell((), (1, 1), (1, 0), (("on", (-1, 1)),), True)
        self.tell((), (1, 23), (1, 0), (("on", (1, 1)),), True)
        self.tell((OVER_0,), (3, 23), (3, 1), (("on", (2, 1)),), True)
        self.tell((OVER_0,), (3, 23), (3, 1), (("on", (-22, 1)),), False)
        self.tell((OVER_0,), (3, 1), (3, 23), (("on", (-2, 1)),), True)
        self.tell((OVER_0,), (3, 1), (3, 23), (("on", (22, 1)),), False)

    def test_whole_turns(self):
        for by in (24, -24):
            self.tell((), (1, 7), (1, 7), (("on", (by, 1)),), True)
            self.tell((DISC,), (1, Fraction(1, 3)), (1, Fraction(1, 3)), (("on", (by, 1)),), True)
            self.tell((OVER_0,), (3, 7), (3, 7), (("on", (by, 1)),), False)
            self.tell((OVER_0,), (3, 21), (3, 21), (("on", (by, 1)),), False)
            self.tell((DISC, (0, 3, 7, 1)), (1, 8), (1, 8), (("on", (by, 1)),), False)

    def test_turns_by_more_than_24(self):
        for by in ((25, 1), (-25, 1), (48, 1), (-48, 1), (49, 2), (24 * 10 ** 20 + 1, 10 ** 20),
                   (-24 * 10 ** 20 - 1, 10 ** 20)):
            end = (1 * by[1] + by[0]) % (24 * by[1])
            self.tell((), (1, 1), (1, Fraction(end, by[1])), (("on", by),), False)
        almost = (24 * 10 ** 20 - 1, 10 ** 20)
        self.tell((), (1, 0), (1, Fraction(*almost)), (("on", almost),), True)

    def test_fars_of_0_or_below(self):
        for far in ((0, 1), (-1, 1), (-1, 2)):
            self.tell((), (1, 0), (1, 0), (("out", far), ("out", (1, 1))), False)
        self.tell((), (1, 0), (1, 0), (("out", (1, 10 ** 20)), ("out", (1, 1))), True)

    def test_fractions_that_can_be_made_less(self):
        self.tell((), (1, 0), (2, 0), (("out", (4, 2)),), False)
        self.tell((), (1, 0), (1, 5), (("on", (10, 2)),), False)
        self.tell((), (1, 0), (1, 0), (("on", (0, 2)),), False)
        self.tell((), (1, 0), (1, 19), (("on", (-10, 2)),), False)
        self.tell((), (1, 0), (2, 0), (("out", (-2, -1)),), False)
        self.tell((), (1, 0), (1, 5), (("on", (-5, -1)),), False)
        self.tell((), (1, 0), (1, 5), (("on", (5, 0)),), False)

    def test_other_words(self):
        for word in ("", "Out", "OUT", "out ", " out", "in", "o", "off", "outon", "onout"):
            self.tell((), (1, 0), (2, 0), ((word, (2, 1)),), False)
        for word in ("On", "ON", "on ", "by", "back", "onn"):
            self.tell((), (1, 0), (1, 2), ((word, (2, 1)),), False)

    def test_other_things_in_the_place_of_a_word(self):
        for word in (None, True, False, 0, 1, (), ("out",), [], ["out"], ("o", "u", "t"), [["out"]]):
            self.tell((), (1, 0), (2, 0), ((word, (2, 1)),), False)
            self.tell((), (1, 0), (1, 0), ((word, (1, 1)),), False)

    def test_other_things_in_the_place_of_a_fraction(self):
        for thing in (None, True, False, 0, 1, 2, "", "2", "21", (), (2,), (2, 1, 1), [2, 1], [], ((2, 1),),
                      (True, 1), (2, True), (True, True), (False, 1), (None, 1), (2, None), ("2", 1), (2, "1"),
                      ([2], 1), (2, [1]), ((2,), 1), (2, (1,))):
            self.tell((), (1, 0), (2, 0), (("out", thing),), False)
            self.tell((), (1, 0), (1, 0), (("out", thing),), False)
            self.tell((), (1, 0), (1, 2), (("on", thing),), False)
            self.tell((), (1, 0), (1, 1), (("on", thing),), False)
            self.tell((), (1, 0), (1, 0), (("on", thing),), False)

    def test_other_things_in_the_place_of_a_move(self):
        for thing in (None, True, False, 0, 1, "", "out", "on", (), ("out",), ((2, 1),), ("out", 2, 1),
                      ("out", (2, 1), 1), ("out", (2, 1), "on", (0, 1)), ["out", (2, 1)], ("out", [2, 1]),
                      [], ((2, 1), "out"), (("out", (2, 1)),)):
            self.tell((), (1, 0), (2, 0), (thing,), False)
            self.tell((), (1, 0), (1, 0), (thing,), False)
            self.tell((), (1, 0), (2, 0), (("out", (2, 1)), thing), False)

    def test_other_things_in_the_place_of_a_way(self):
        for thing in (None, True, False, 0, 1, "", "out", [], {}, [("out", (1, 1))], [("on", (0, 1))],
                      ("out", (1, 1)), ("on", (0, 1)), [[]], ((),), "()"):
            self.tell((), (1, 0), (1, 0), thing, False)

    def test_nested_deep(self):
        for wrap in (lambda thing: (thing,), lambda thing: [thing], lambda thing: (thing, thing),
                     lambda thing: ("out", thing), lambda thing: (("on", thing),)):
            for innermost in (1, (), [], (1, 1), ("out", (1, 1)), None, "on"):
                deep = innermost
                for _ in range(30):
                    deep = wrap(deep)
                self.tell((), (1, 0), (1, 0), deep, False)
                self.tell((OVER_0,), (3, 21), (3, 21), (("out", deep),), False)
                self.tell((OVER_0,), (3, 21), (3, 21), ((deep, (0, 1)),), False)

    def test_they_leave_the_face_in_the_midst_of_a_move_only(self):
        self.tell((RING,), (1, 0), (6, 0), (("out", (6, 1)),), False)
        self.tell((RING,), (6, 0), (1, 0), (("out", (1, 1)),), False)
        self.tell((OVER_0,), (1, 22), (6, 22), (("out", (6, 1)),), False)
        self.tell((OVER_0,), (3, 19), (3, 4), (("on", (9, 1)),), False)
        self.tell((OVER_0,), (3, 19), (3, 4), (("on", (-15, 1)),), True)
        self.tell((OVER_0,), (3, 4), (3, 19), (("on", (-9, 1)),), False)
        self.tell((DISC, (0, 3, 7, 1)), (1, 2), (1, 12), (("on", (10, 1)),), False)
        self.tell((DISC, (0, 3, 7, 1)), (1, 2), (1, 12), (("on", (-14, 1)),), True)
        self.tell((DISC, (1, 2, 0, 24)), (Fraction(1, 2), 2), (Fraction(5, 2), 2), (("out", (5, 2)),), False)

    def test_they_leave_it_between_two_moves_only(self):
        self.tell((RING,), (1, 0), (1, 0), (("out", (2, 1)), ("out", (1, 1))), False)
        self.tell((OVER_0,), (3, 21), (3, 21), (("on", (-2, 1)), ("on", (2, 1))), False)
        self.tell((OVER_0,), (3, 4), (3, 4), (("out", (9, 1)), ("on", (-6, 1)), ("on", (6, 1)), ("out", (3, 1))), True)

    def test_they_touch_a_border_only(self):
        # A piece has its inner edge and its begin, not its outer edge and its end.
        self.tell((OVER_0,), (3, 21), (4, 21), (("out", (2, 1)), ("out", (4, 1))), True)
        self.tell((OVER_0,), (3, 21), (4, 21), (("out", (5, 1)), ("out", (4, 1))), False)
        self.tell((OVER_0,), (3, 21), (3, 22), (("on", (-1, 1)), ("on", (2, 1))), True)
        self.tell((OVER_0,), (3, 2), (3, 1), (("on", (1, 1)), ("on", (-2, 1))), False)
        self.tell((OVER_0,), (1, 21), (1, 21), (("out", (2, 1)), ("out", (1, 1))), False)
        self.tell((OVER_0,), (6, 21), (6, 21), (("out", (5, 1)), ("out", (6, 1))), True)
        self.tell((OVER_0,), (3, 19), (3, 19), (("on", (1, 1)), ("on", (-1, 1))), False)
        self.tell((OVER_0,), (3, 4), (3, 4), (("on", (-1, 1)), ("on", (1, 1))), True)

    def test_along_a_border(self):
        self.tell((OVER_0,), (2, 20), (2, 2), (("on", (6, 1)),), True)
        self.tell((OVER_0,), (2, 20), (2, 3), (("on", (7, 1)),), False)
        self.tell((OVER_0,), (2, 20), (Fraction(9, 2), 20), (("out", (9, 2)),), True)
        self.tell((OVER_0,), (5, 20), (5, 3), (("on", (7, 1)),), True)
        self.tell((OVER_0,), (5, 3), (2, 3), (("out", (2, 1)),), True)
        self.tell((OVER_0,), (5, 20), (2, 20), (("out", (2, 1)),), False)

    def test_from_a_corner(self):
        sheet = (DISC, (1, 2, 3, 1), (2, 3, 4, 1))
        self.tell(sheet, (2, 4), (1, 3), (("on", (-1, 1)), ("out", (1, 1))), False)
        self.tell(sheet, (1, 4), (2, 3), (("out", (2, 1)), ("on", (-1, 1))), False)

    def test_the_same_layers_are_the_same_pieces(self):
        sheet = ((0, 2, 0, 5), (0, 2, 5, 5))
        self.tell(sheet, (1, 4), (1, 6), (("on", (2, 1)),), False)
        self.tell((DISC,) + sheet, (1, 4), (1, 6), (("on", (2, 1)),), False)

    def test_more_and_greater_pieces(self):
        sheet = ((1000, 10 ** 20, 0, 23),) * 12
        self.tell(sheet, (1000, 0), (10 ** 20 - 1, 22), (("on", (22, 1)), ("out", (10 ** 20 - 1, 1))), True)
        self.tell(sheet, (1000, 0), (10 ** 20, 22), (("on", (22, 1)), ("out", (10 ** 20, 1))), False)
        self.tell(sheet, (1000, 0), (1000, 22), (("on", (-2, 1)),), False)

    def test_as_walked_step_by_step(self):
        draw = random.Random(23)
        answers = []
        for sheet in drawn_sheets(29, 900, 4, 4, 2):
            one = drawn_point(draw, 5)
            moves, point = [], one
            for _ in range(draw.randint(1, 3)):
                if draw.random() < 0.5:
                    moves.append(("out", drawn_point(draw, 5)[0]))
                else:
                    by = Fraction(draw.randint(-20, 20), draw.choice((1, 2, 3, 4)))
                    moves.append(("on", (by.numerator, by.denominator)))
                point = points_on(point, moves[-1])[-1]
            answer = walked(sheet, one, point, moves)
            answers.append(answer)
            with self.subTest(sheet=sheet, one=one, moves=moves):
                self.assertIs(is_way(sheet, one, point, tuple(moves)), answer)
                self.assertIs(is_way(sheet, one, drawn_point(draw, 5), tuple(moves) + (("out", point[0]),)), False)
        self.assertGreater(answers.count(True), 100)
        self.assertGreater(answers.count(False), 100)

    def test_what_was_handed_in_is_as_it_was(self):
        for thing in ([("out", [2, 1])], (["out", (2, 1)],), (("out", [2, 1]),), (("out", (2, 1)),)):
            before = repr(thing)
            is_way((OVER_0,), ((1, 1), (0, 1)), ((2, 1), (0, 1)), thing)
            self.assertEqual(repr(thing), before)


if __name__ == "__main__":
    unittest.main()
