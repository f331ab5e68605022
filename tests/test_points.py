import copy
import unittest

from ringlayers.pieces import is_point

FAR = (7, 2)
TURN = (45, 4)


class PointTest(unittest.TestCase):
    def tell(self, thing, answer):
        with self.subTest(thing=thing):
            self.assertIs(is_point(thing), answer)

    def test_points(self):
        self.tell((FAR, TURN), True)
        self.tell(((1, 1), (0, 1)), True)
        self.tell(((10 ** 40, 1), (23, 1)), True)

    def test_far_is_above_0(self):
        for far in ((1, 1), (1, 2), (1, 10 ** 40), (999, 1), (1000, 1), (10 ** 40 + 1, 3)):
            self.tell((far, TURN), True)
        for far in ((0, 1), (-1, 1), (-1, 2), (-1, 10 ** 40), (-999, 1)):
            self.tell((far, TURN), False)

    def test_turn_is_from_0_to_below_24(self):
        for turn in ((0, 1), (1, 10 ** 40), (1, 2), (23, 1), (47, 2), (24 * 10 ** 40 - 1, 10 ** 40)):
            self.tell((FAR, turn), True)
        for turn in ((24, 1), (49, 2), (25, 1), (24 * 10 ** 40 + 1, 10 ** 40), (48, 1)):
            self.tell((FAR, turn), False)
        for turn in ((-1, 10 ** 40), (-1, 2), (-1, 1), (-24, 1)):
            self.tell((FAR, turn), False)

    def test_a_lower_part_of_0_and_below(self):
        for lower in (0, -1, -2):
            for upper in (-7, -1, 0, 1, 7):
                self.tell(((upper, lower), TURN), False)
                self.tell((FAR, (upper, lower)), False)

    def test_fractions_that_can_be_made_less(self):
        for fraction in ((2, 2), (2, 4), (14, 4), (9, 3), (46, 2)):
            self.tell((fraction, TURN), False)
            self.tell((FAR, fraction), False)
        self.tell((FAR, (0, 2)), False)
        self.tell((FAR, (0, 24)), False)

    def test_too_few_or_too_many_parts(self):
        for thing in ((), (FAR,), (FAR, TURN, FAR), (FAR, TURN, 1), (7, 2, 45, 4)):
            self.tell(thing, False)
        for fraction in ((), (1,), (1, 2, 3), (1, 1, 1)):
            self.tell((fraction, TURN), False)
            self.tell((FAR, fraction), False)

    def test_other_things_in_the_place_of_the_pair(self):
        for thing in (None, True, False, 0, 1, "", "ab", "point", [], [FAR, TURN], [list(FAR), list(TURN)], FAR):
            self.tell(thing, False)

    def test_other_things_in_the_place_of_a_fraction(self):
        for thing in (None, True, False, 0, 1, 5, "", "12", "1/2", [], [1, 2], [1, 1], ((1, 2),), (FAR, TURN)):
            self.tell((thing, TURN), False)
            self.tell((FAR, thing), False)

    def test_other_things_in_the_place_of_a_part(self):
        for part in (None, True, False, "", "1", (), (1,), [], [1]):
            for fraction in ((part, 1), (1, part), (part, part)):
                self.tell((fraction, TURN), False)
                self.tell((FAR, fraction), False)

    def test_nested_deep(self):
        for wrap in (lambda thing: (thing,), lambda thing: [thing], lambda thing: (thing, thing)):
            for innermost in (1, (), [], FAR, (FAR, TURN), None, "ab"):
                deep = innermost
                for step in range(12):
                    deep = wrap(deep)
                self.tell(deep, False)
        deep = 1
        for step in range(30):
            deep = (deep,) if step % 2 else [deep]
        self.tell(deep, False)
        self.tell((deep, TURN), False)
        self.tell((FAR, deep), False)
        self.tell(((deep, 1), TURN), False)
        self.tell((FAR, (1, deep)), False)

    def test_same_again_and_nothing_changed(self):
        for thing in ((FAR, TURN), [list(FAR), list(TURN)], (list(FAR), TURN), (FAR, ([45], 4)), ((2, 4), TURN)):
            before = copy.deepcopy(thing)
            first = is_point(thing)
            self.assertEqual(thing, before)
            self.assertIs(is_point(thing), first)
            self.assertEqual(thing, before)


if __name__ == "__main__":
    unittest.main()
