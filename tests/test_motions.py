import unittest

from fourhinges.errors import BadMotion
from fourhinges.forces import Force
from fourhinges.motions import Motion
from fourhinges.thrust import Thrust
from tests.samples import HUGE, NO_WHOLE


def shown(motion):
    return (motion.turn, motion.across, motion.up)


class MotionTest(unittest.TestCase):
    def test_attributes(self):
        self.assertEqual(shown(Motion(1, -2, HUGE)), (1, -2, HUGE))
        self.assertEqual(shown(Motion(turn=1, across=2, up=3)), (1, 2, 3))

    def test_bad(self):
        for thing in NO_WHOLE:
            for numbers in ((thing, 2, 3), (1, thing, 3), (1, 2, thing), (thing, thing, thing)):
                with self.assertRaises(BadMotion):
                    Motion(*numbers)

    def test_sums(self):
        one, other = Motion(1, 20, 300), Motion(5, -6, HUGE)
        self.assertEqual(shown(one + other), (6, 14, 300 + HUGE))
        self.assertEqual(shown(one - other), (-4, 26, 300 - HUGE))
        self.assertEqual(shown(-one), (-1, -20, -300))
        self.assertEqual(shown(one * 3), (3, 60, 900))
        self.assertEqual(shown(one * -1), (-1, -20, -300))
        self.assertEqual(shown(one * 0), (0, 0, 0))
        self.assertEqual(shown(one), (1, 20, 300))

    def test_equal(self):
        self.assertTrue(Motion(1, 2, 3) == Motion(1, 2, 3))
        for other in (Motion(0, 2, 3), Motion(1, 0, 3), Motion(1, 2, 0), Force(1, 2, 3), (1, 2, 3), None, 1):
            self.assertFalse(Motion(1, 2, 3) == other)
            self.assertTrue(Motion(1, 2, 3) != other)
        self.assertFalse(Force(1, 2, 3) == Motion(1, 2, 3))

    def test_none(self):
        self.assertEqual(shown(Motion.none()), (0, 0, 0))
        self.assertIs(Motion.none().is_none, True)
        for numbers in ((1, 0, 0), (0, -1, 0), (0, 0, HUGE)):
            self.assertIs(Motion(*numbers).is_none, False)

    def test_turning(self):
        self.assertEqual(shown(Motion.turning((5, 7))), (1, 7, -5))
        self.assertEqual(shown(Motion.turning([5, 7], 3)), (3, 21, -15))
        self.assertEqual(shown(Motion.turning((5, 7), turn=-2)), (-2, -14, 10))
        self.assertEqual(shown(Motion.turning((5, 7), 0)), (0, 0, 0))

    def test_at(self):
        self.assertEqual(Motion(2, 100, 1000).at((5, 7)), (86, 1010))
        self.assertEqual(Motion(2, 100, 1000).at([0, 0]), (100, 1000))
        self.assertEqual(Motion.turning((5, 7), 3).at((5, 7)), (0, 0))
        # A turn counterclockwise about the origin lifts what is at the right.
        self.assertEqual(Motion.turning((0, 0)).at((1, 0)), (0, 1))

    def test_measure(self):
        self.assertEqual(Motion(2, 30, 400).measure(Force(5, 7, 11)), 2 * 11 + 30 * 5 + 400 * 7)
        self.assertEqual(Motion(HUGE, 0, 0).measure(Force(5, 7, HUGE)), HUGE * HUGE)
        force = Force(3, -4, 50)
        for point in ((0, 0), (5, 7), (-3, 2)):
            self.assertEqual(Motion.turning(point).measure(force), force.about(point))

    def test_measure_of(self):
        motion = Motion(2, 30, 400)
        self.assertEqual(motion.measure_of(Thrust(Force(5, 7, 11), 3)), (2972, 3))
        self.assertEqual(motion.measure_of(Thrust(Force(5, 7, 11), 8)), (743, 2))
        self.assertEqual(motion.measure_of(Thrust(Force(-5, -7, -11), 8)), (-743, 2))
        self.assertEqual(motion.measure_of(Thrust(Force(5, 7, 11))), (2972, 1))
        self.assertEqual(Motion(0, 0, 0).measure_of(Thrust(Force(5, 7, 11), 3)), (0, 1))
