import copy
import unittest

from ringlayers.pieces import is_sheet

PIECE = (2, 5, 20, 7)


def nested(innermost, depth, wrap):
    thing = innermost
    for step in range(depth):
        thing = wrap(thing)
    return thing


def with_part(place, part):
    parts = list(PIECE)
    parts[place] = part
    return tuple(parts)


class SheetTest(unittest.TestCase):
    def tell(self, thing, answer):
        with self.subTest(thing=thing):
            self.assertIs(is_sheet(thing), answer)

    def test_how_many_pieces(self):
        for count in range(9):
            self.tell((PIECE,) * count, True)
        for count in (9, 10, 16, 1000):
            self.tell((PIECE,) * count, False)

    def test_different_pieces(self):
        self.tell(((0, 3, 0, 24), (2, 5, 20, 7)), True)
        self.tell(tuple((far, far + 1, far, far + 1) for far in range(8)), True)

    def test_one_wrong_piece_in_any_place(self):
        for place in range(8):
            pieces = [PIECE] * 8
            pieces[place] = (5, 5, 20, 7)
            self.tell(tuple(pieces), False)

    def test_edges_of_inner(self):
        for inner, outer, answer in (
            (0, 1, True), (0, 999, True), (-1, 1, False), (-1, 0, False), (-5, 999, False),
            (4, 5, True), (5, 5, False), (6, 5, False), (0, 0, False), (998, 999, True), (999, 999, False),
        ):
            self.tell(((inner, outer, 0, 24),), answer)

    def test_edges_of_outer(self):
        for outer, answer in ((998, True), (999, True), (1000, False), (1001, False), (10 ** 40, False)):
            self.tell(((0, outer, 0, 24),), answer)
        self.tell(((999, 1000, 0, 24),), False)

    def test_edges_of_begin(self):
        for begin in range(24):
            self.tell(((0, 1, begin, 1),), True)
        for begin in (-24, -1, 24, 25, 48):
            self.tell(((0, 1, begin, 1),), False)

    def test_edges_of_wide(self):
        for wide in range(1, 25):
            self.tell(((0, 1, 0, wide),), True)
            self.tell(((0, 1, 23, wide),), True)
        for wide in (-24, -1, 0, 25, 48):
            self.tell(((0, 1, 0, wide),), False)

    def test_too_few_or_too_many_parts(self):
        for piece in ((), (2,), (2, 5), (2, 5, 20), (2, 5, 20, 7, 1), PIECE + PIECE):
            self.tell((piece,), False)
            self.tell((PIECE, piece), False)

    def test_truths_are_no_whole_numbers(self):
        self.tell(((False, 1, 0, 1),), False)
        self.tell(((0, True, 0, 1),), False)
        self.tell(((0, 1, False, 1),), False)
        self.tell(((0, 1, True, 1),), False)
        self.tell(((0, 1, 0, True),), False)
        self.tell(((False, True, False, True),), False)

    def test_other_things_in_the_place_of_the_sheet(self):
        things = (
            None, True, False, 0, 1, -1, "", "none", "0-3@0+24", "abcd",
            [], [PIECE], [list(PIECE)], [[]], [None], PIECE, list(PIECE),
        )
        for thing in things:
            self.tell(thing, False)

    def test_other_things_in_the_place_of_a_piece(self):
        for thing in (None, True, False, 0, 4, "", "abcd", "0-3@0+24", [], list(PIECE), (PIECE,), (PIECE,) * 4):
            self.tell((thing,), False)
            self.tell((PIECE, thing), False)
            self.tell((thing, PIECE), False)

    def test_other_things_in_the_place_of_a_number(self):
        for place in range(4):
            self.tell((with_part(place, PIECE[place]),), True)
            for part in (None, True, False, "", str(PIECE[place]), (), [], (PIECE[place],), [PIECE[place]]):
                self.tell((with_part(place, part),), False)

    def test_nested_deep(self):
        for innermost in ((), [], PIECE, (PIECE,), None, 3, "none"):
            for depth in (2, 3, 30, 40):
                self.tell(nested(innermost, depth, lambda thing: (thing,)), False)
                self.tell(nested(innermost, depth, lambda thing: [thing]), False)
                self.tell(nested(innermost, depth, lambda thing: (thing, [thing])[:1]), False)
        deep = nested(5, 30, lambda thing: (thing,))
        for place in range(4):
            self.tell((with_part(place, deep),), False)
        self.tell((PIECE, deep), False)

    def test_same_again_and_nothing_changed(self):
        for thing in ((PIECE, PIECE), [PIECE, [2, 5, 20, 7]], ([2, 5, 20, 7],), (PIECE, [[], [1]]), ()):
            before = copy.deepcopy(thing)
            first = is_sheet(thing)
            self.assertEqual(thing, before)
            self.assertIs(is_sheet(thing), first)
            self.assertEqual(thing, before)


if __name__ == "__main__":
    unittest.main()
