import math
import unittest
from fractions import Fraction

from ringlayers.fractions import (
    added, common_divisor, is_fraction, is_whole, lies_between, lowest, opposite, whole_part,
)


class WholeTest(unittest.TestCase):
    def test_ints_are_whole(self):
        for thing in (0, 1, -1, 10 ** 40, -10 ** 40):
            with self.subTest(thing=thing):
                self.assertIs(is_whole(thing), True)

    def test_truths_and_other_things_are_not(self):
        for thing in (True, False, None, "", "1", (), (1,), [], [1]):
            with self.subTest(thing=thing):
                self.assertIs(is_whole(thing), False)


class CommonDivisorTest(unittest.TestCase):
    def test_as_python_finds_it(self):
        for one in range(-30, 31):
            for other in range(-30, 31):
                with self.subTest(one=one, other=other):
                    self.assertEqual(common_divisor(one, other), math.gcd(one, other))

    def test_great_numbers(self):
        self.assertEqual(common_divisor(6 ** 200, 10 ** 150), 2 ** 150)


class FractionTest(unittest.TestCase):
    def test_fractions(self):
        for thing in ((0, 1), (1, 1), (-1, 1), (1, 2), (-3, 2), (24, 1), (10 ** 40 + 1, 10 ** 40)):
            with self.subTest(thing=thing):
                self.assertIs(is_fraction(thing), True)

    def test_those_that_can_be_made_less(self):
        for thing in ((2, 2), (0, 2), (0, 24), (4, 6), (-4, 6), (9, 3), (6 ** 40, 10 ** 40)):
            with self.subTest(thing=thing):
                self.assertIs(is_fraction(thing), False)

    def test_a_lower_part_below_one(self):
        for thing in ((1, 0), (0, 0), (-1, 0), (1, -1), (0, -1), (1, -2), (-3, -2)):
            with self.subTest(thing=thing):
                self.assertIs(is_fraction(thing), False)

    def test_every_small_pair(self):
        for upper in range(-12, 13):
            for lower in range(-12, 13):
                with self.subTest(upper=upper, lower=lower):
                    told = lower >= 1 and math.gcd(upper, lower) == 1
                    self.assertIs(is_fraction((upper, lower)), told)

    def test_other_things(self):
        things = (
            None, True, False, 0, 1, "", "12", "1/2", (), (1,), (1, 2, 3), (1, 1, 1), [], [1, 2],
            (True, 1), (False, 1), (1, True), (True, True), (None, 1), (1, None), ("1", 2), (1, "2"),
            ([1], 2), (1, [2]), ((1,), 2), ((1, 2), (1, 2)),
        )
        for thing in things:
            with self.subTest(thing=thing):
                self.assertIs(is_fraction(thing), False)


class BetweenTest(unittest.TestCase):
    def test_begin_is_in_and_end_is_not(self):
        told = {
            (2, 1): True, (2001, 1000): True, (1999, 1000): False, (3, 1): True, (9, 2): True,
            (4999, 1000): True, (5, 1): False, (5001, 1000): False, (-3, 1): False, (0, 1): False,
        }
        for fraction, answer in told.items():
            with self.subTest(fraction=fraction):
                self.assertIs(lies_between(fraction, 2, 5), answer)

    def test_nothing_lies_between_a_number_and_itself(self):
        for fraction in ((2, 1), (3, 2), (5, 2)):
            with self.subTest(fraction=fraction):
                self.assertIs(lies_between(fraction, 2, 2), False)


class ReckoningTest(unittest.TestCase):
    def same(self, told, number):
        self.assertTrue(is_fraction(told), told)
        self.assertEqual(told, (number.numerator, number.denominator))

    def test_lowest(self):
        for upper in range(-30, 31):
            for lower in range(1, 31):
                self.same(lowest(upper, lower), Fraction(upper, lower))
        self.assertEqual(lowest(0, 7), (0, 1))

    def test_added_opposite_and_whole_part(self):
        numbers = [Fraction(upper, lower) for upper in range(-9, 10) for lower in range(1, 7)]
        for one in numbers:
            here = (one.numerator, one.denominator)
            self.same(opposite(here), -one)
            self.assertEqual(whole_part(here), math.floor(one))
            for other in numbers:
                self.same(added(here, (other.numerator, other.denominator)), one + other)


if __name__ == "__main__":
    unittest.main()
