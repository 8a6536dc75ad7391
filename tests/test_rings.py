import random
import unittest

from fourhinges.errors import BadCut, BadRing
from fourhinges.forces import Force
from fourhinges.rings import check_ring, cut_ring, is_point, ring_force
from tests.samples import HUGE, NO_WHOLE, kinds_of, misses

# Two stones: inner corners below, outer corners above.
JOINTS = (((0, 0), (0, 2)), ((4, 0), (4, 2)), ((8, 0), (8, 2)))
FIRST = ((0, 0), (4, 0), (4, 2), (0, 2))
SECOND = ((4, 0), (6, -1), (8, 0), (8, 2), (4, 2))


class PointTest(unittest.TestCase):
    def test_points(self):
        for thing in ((0, 0), [1, -2], (1000000, -1000000), [-1000000, 1000000]):
            self.assertIs(is_point(thing), True)

    def test_others(self):
        for thing in ((1000001, 0), (-1000001, 0), (0, 1000001), (0, -1000001), (0,), (0, 0, 0), (), [], "ab",
                      None, 3, {0: 1, 1: 2}, ((0, 0), (0, 0))):
            self.assertIs(is_point(thing), False)
        for thing in NO_WHOLE:
            self.assertIs(is_point((thing, 0)), False)
            self.assertIs(is_point([0, thing]), False)


class RingForceTest(unittest.TestCase):
    def test_numbers(self):
        # Area 8, middle at x = 2; a sixth of a unit square weighs 5.
        self.assertEqual(kinds_of(ring_force(FIRST, 5)), (0, -8 * 6 * 5, -8 * 6 * 5 * 2))
        self.assertEqual(kinds_of(ring_force(((0, 0), (3, 0), (0, 3)), 1)), (0, -27, -27))
        self.assertEqual(kinds_of(ring_force(((1, 0), (4, 0), (1, 3)), 1)), (0, -27, -54))

    def test_either_direction(self):
        for ring in (FIRST, SECOND):
            self.assertEqual(ring_force(ring[::-1], 7), -ring_force(ring, 7))

    def test_any_first_point(self):
        for at in range(5):
            self.assertEqual(ring_force(SECOND[at:] + SECOND[:at], 7), ring_force(SECOND, 7))

    def test_density(self):
        self.assertTrue(ring_force(SECOND, 0).is_none)
        self.assertEqual(ring_force(SECOND, HUGE), ring_force(SECOND, 1) * HUGE)

    def test_lists(self):
        self.assertEqual(ring_force([list(point) for point in SECOND], 7), ring_force(SECOND, 7))

    def test_checks_nothing(self):
        self.assertEqual(ring_force(((0, 0), (2000000, 0)), 1), Force.none())


class CheckRingTest(unittest.TestCase):
    def check_bad(self, what, stone, ring, joints=JOINTS):
        with self.assertRaises(BadRing) as caught:
            check_ring(joints, stone, ring)
        self.assertEqual((caught.exception.what, caught.exception.stone), (what, stone))

    def test_good(self):
        self.assertIsNone(check_ring(JOINTS, 0, FIRST))
        self.assertIsNone(check_ring(JOINTS, 1, SECOND))
        for at in range(5):
            self.assertIsNone(check_ring(JOINTS, 1, SECOND[at:] + SECOND[:at]))
        self.assertIsNone(check_ring([[list(point) for point in joint] for joint in JOINTS], 1,
                                     [list(point) for point in SECOND]))

    def test_three_and_twelve_points(self):
        joints = (((0, 0), (2, 4)), ((4, 0), (2, 4)))
        self.assertIsNone(check_ring(joints, 0, ((0, 0), (4, 0), (2, 4))))
        more = tuple([(4, 0)] * 8)
        self.assertIsNone(check_ring(JOINTS, 0, FIRST[:1] + more + FIRST[1:]))
        self.check_bad("ring", 0, FIRST[:1] + more + ((4, 0),) + FIRST[1:])

    def test_ring(self):
        for thing in ((), ((0, 0),), FIRST[:2], FIRST * 4, None, 4, "abc", {0: 1, 1: 2, 2: 3}, set(FIRST)):
            self.check_bad("ring", 0, thing)

    def test_point(self):
        for thing in (None, (0,), (0, 0, 0), (1000001, 0), (True, 0), "ab", 5):
            self.check_bad("point", 0, FIRST + (thing,))
            self.check_bad("point", 1, (thing, thing, thing))

    def test_left(self):
        self.check_bad("left", 0, SECOND)
        self.check_bad("left", 1, FIRST)
        # The inner corner is followed by the outer one.
        self.check_bad("left", 0, FIRST[::-1])
        # A point lies between the two.
        self.check_bad("left", 0, FIRST + ((0, 1),))

    def test_right(self):
        self.check_bad("right", 0, ((0, 0), (5, 0), (5, 2), (0, 2)))
        self.check_bad("right", 0, ((0, 0), (4, 0), (4, 1), (4, 2), (0, 2)))
        self.check_bad("right", 0, ((0, 0), (4, 2), (4, 0), (0, 2)))

    def test_area(self):
        # Both sides have the right direction, but the ring runs clockwise on the whole.
        ring = ((0, 0), (0, 50), (4, 0), (4, 2), (4, -50), (0, 2))
        self.check_bad("area", 0, ring)
        self.check_bad("area", 1, ((4, 0), (8, 0), (8, 2), (6, -50), (4, 2)))

    def test_area_about_zero(self):
        joints = (((0, 0), (0, 1)), ((1, 0), (1, 1)))
        self.assertIsNone(check_ring(joints, 0, ((0, 0), (0, 2), (1, 0), (1, 1), (0, 1))))
        self.check_bad("area", 0, ((0, 0), (0, 3), (1, 0), (1, 1), (0, 1)), joints)

    def test_area_zero(self):
        joints = (((0, 0), (0, 2)), ((0, 2), (0, 0)))
        self.assertIsNone(check_ring(joints, 0, ((0, 2), (0, 0), (0, 1))))


class CutRingTest(unittest.TestCase):
    RING = ((0, 0), (4, -1), (6, 2), (3, 5), (-2, 3))

    def test_all_pairs(self):
        good = {(0, 2), (0, 3), (1, 3), (1, 4), (2, 4)}
        for one in range(-2, 7):
            for other in range(-2, 7):
                if (one, other) in good:
                    self.check_good(one, other)
                else:
                    self.check_bad(one, other)

    def check_good(self, one, other):
        first, second = cut_ring(self.RING, one, other)
        self.assertEqual(first, self.RING[one:other + 1])
        self.assertEqual(second, self.RING[other:] + self.RING[:one + 1])
        self.assertEqual(ring_force(first, 3) + ring_force(second, 3), ring_force(self.RING, 3))

    def check_bad(self, one, other):
        with self.assertRaises(BadCut) as caught:
            cut_ring(self.RING, one, other)
        self.assertIs(caught.exception.one, one)
        self.assertIs(caught.exception.other, other)

    def test_other_kinds(self):
        for thing in misses(5):
            self.check_bad(thing, 3)
            self.check_bad(1, thing)
            self.check_bad(thing, thing)

    def test_triangle(self):
        for one in range(3):
            for other in range(3):
                with self.assertRaises(BadCut):
                    cut_ring(self.RING[:3], one, other)

    def test_tuples(self):
        ring = [list(point) for point in self.RING]
        found = cut_ring(ring, 1, 3)
        self.assertEqual(found, (((4, -1), (6, 2), (3, 5)), ((3, 5), (-2, 3), (0, 0), (4, -1))))
        ring[1][0] = 99
        self.assertEqual(found[0][0], (4, -1))

    def test_forces_add_up(self):
        rng = random.Random(2)
        for _ in range(50):
            ring = [(rng.randint(-9, 9), rng.randint(-9, 9)) for _ in range(rng.randint(4, 12))]
            one = rng.randint(0, len(ring) - 3)
            other = rng.randint(one + 2, len(ring) - (2 if one == 0 else 1))
            first, second = cut_ring(ring, one, other)
            self.assertEqual(ring_force(first, 3) + ring_force(second, 3), ring_force(ring, 3))
