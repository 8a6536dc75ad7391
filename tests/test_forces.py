import unittest

from fourhinges.errors import BadForce
from fourhinges.forces import Force
from fourhinges.loads import Load
from tests.samples import HUGE, NO_WHOLE, kinds_of


class ForceTest(unittest.TestCase):
    def test_attributes(self):
        self.assertEqual(kinds_of(Force(1, -2, HUGE)), (1, -2, HUGE))
        self.assertEqual(kinds_of(Force(across=1, up=2, moment=3)), (1, 2, 3))

    def test_first_wrong_number_is_named(self):
        for thing in NO_WHOLE:
            for numbers, what in (((thing, thing, thing), "across"), ((1, thing, thing), "up"),
                                  ((1, 2, thing), "moment"), ((thing, 1, 2), "across"), ((1, thing, 2), "up")):
                with self.assertRaises(BadForce) as caught:
                    Force(*numbers)
                self.assertEqual(caught.exception.what, what)

    def test_sums(self):
        one, other = Force(1, 20, 300), Force(5, -6, HUGE)
        self.assertEqual(kinds_of(one + other), (6, 14, 300 + HUGE))
        self.assertEqual(kinds_of(one - other), (-4, 26, 300 - HUGE))
        self.assertEqual(kinds_of(-one), (-1, -20, -300))
        self.assertEqual(kinds_of(one * 3), (3, 60, 900))
        self.assertEqual(kinds_of(one * -1), (-1, -20, -300))
        self.assertEqual(kinds_of(one * 0), (0, 0, 0))
        self.assertEqual(kinds_of(one * HUGE), (HUGE, 20 * HUGE, 300 * HUGE))
        self.assertEqual((kinds_of(one), kinds_of(other)), ((1, 20, 300), (5, -6, HUGE)))

    def test_equal(self):
        self.assertTrue(Force(1, 2, 3) == Force(1, 2, 3))
        self.assertFalse(Force(1, 2, 3) != Force(1, 2, 3))
        for other in (Force(0, 2, 3), Force(1, 0, 3), Force(1, 2, 0), (1, 2, 3), [1, 2, 3], None, 1, "",
                      Load((Force(1, 2, 3),))):
            self.assertFalse(Force(1, 2, 3) == other)
            self.assertTrue(Force(1, 2, 3) != other)

    def test_is_none(self):
        self.assertIs(Force(0, 0, 0).is_none, True)
        for numbers in ((1, 0, 0), (0, -1, 0), (0, 0, HUGE)):
            self.assertIs(Force(*numbers).is_none, False)

    def test_made(self):
        self.assertEqual(kinds_of(Force.none()), (0, 0, 0))
        self.assertEqual(kinds_of(Force.hanging(3, 5)), (0, -3, -15))
        self.assertEqual(kinds_of(Force.hanging(-3, 5)), (0, 3, 15))
        self.assertEqual(kinds_of(Force.hanging(HUGE, -2)), (0, -HUGE, 2 * HUGE))
        self.assertEqual(kinds_of(Force.acting(2, 3, (5, 7))), (2, 3, 5 * 3 - 7 * 2))
        self.assertEqual(kinds_of(Force.acting(2, 3, [5, 7])), (2, 3, 1))
        self.assertIsInstance(Force.acting(2, 3, (5, 7)), Force)

    def test_about(self):
        self.assertEqual(Force(2, 3, 100).about((5, 7)), 100 - 15 + 14)
        self.assertEqual(Force(2, 3, 100).about([5, 7]), 99)
        self.assertEqual(Force(2, 3, 100).about((0, 0)), 100)
        self.assertEqual(Force.acting(HUGE, -3, (5, 7)).about((5, 7)), 0)
        self.assertEqual(Force.hanging(1, 4).about((8, 9)), 4)
