import random
import unittest
from fractions import Fraction

from fourhinges.errors import BadRatio
from fourhinges.ratios import compare_ratios, is_whole, ratio, ratio_product, ratio_sum
from tests.samples import HUGE, NO_WHOLE


def pair(number):
    return (number.numerator, number.denominator)


class WholeTest(unittest.TestCase):
    def test_bounds(self):
        for number, wanted in ((-4, False), (-3, True), (0, True), (5, True), (6, False)):
            self.assertIs(is_whole(number, -3, 5), wanted)
        self.assertIs(is_whole(7, 7, 7), True)
        self.assertIs(is_whole(7, 8, 6), False)

    def test_other_kinds(self):
        for thing in NO_WHOLE:
            self.assertIs(is_whole(thing, -9, 9), False)

    def test_huge(self):
        self.assertIs(is_whole(HUGE, 0, HUGE), True)
        self.assertIs(is_whole(HUGE, 0, HUGE - 1), False)
        self.assertIs(is_whole(-HUGE, -HUGE, 0), True)


class RatioTest(unittest.TestCase):
    def test_lowest_terms(self):
        self.assertEqual(ratio(6, 4), (3, 2))
        self.assertEqual(ratio(6, -4), (-3, 2))
        self.assertEqual(ratio(-6, 4), (-3, 2))
        self.assertEqual(ratio(-6, -4), (3, 2))
        self.assertEqual(ratio(6, -3), (-2, 1))
        self.assertEqual(ratio(5, 1), (5, 1))

    def test_zero(self):
        for bottom in (1, -1, 7, -7, HUGE):
            self.assertEqual(ratio(0, bottom), (0, 1))

    def test_huge(self):
        self.assertEqual(ratio(HUGE * 6, HUGE * 4), (3, 2))
        self.assertEqual(ratio(HUGE * 6, -HUGE * 4), (-3, 2))
        self.assertEqual(ratio(HUGE, HUGE - 1), (HUGE, HUGE - 1))

    def test_bottom_zero(self):
        for top in (0, 1, -5, HUGE):
            with self.assertRaises(BadRatio):
                ratio(top, 0)

    def test_kinds(self):
        found = ratio(6, 4)
        self.assertIs(type(found), tuple)
        self.assertEqual([type(number) for number in found], [int, int])

    def test_compare(self):
        self.assertEqual(compare_ratios((1, 2), (2, 3)), -1)
        self.assertEqual(compare_ratios((2, 3), (1, 2)), 1)
        self.assertEqual(compare_ratios((1, 2), (1, 2)), 0)
        self.assertEqual(compare_ratios((-1, 2), (-2, 3)), 1)
        self.assertEqual(compare_ratios((HUGE, HUGE + 1), (HUGE + 1, HUGE + 2)), -1)

    def test_against_fractions(self):
        rng = random.Random(1)
        for size in (3, 12, HUGE):
            for _ in range(100):
                one = Fraction(rng.randint(-size, size), rng.randint(1, size))
                other = Fraction(rng.randint(-size, size), rng.randint(1, size))
                self.assertEqual(ratio_sum(pair(one), pair(other)), pair(one + other))
                self.assertEqual(ratio_product(pair(one), pair(other)), pair(one * other))
                self.assertEqual(compare_ratios(pair(one), pair(other)), (one > other) - (one < other))
