import random
import unittest

from fourhinges.bridge import Bridge
from fourhinges.motions import Motion
from fourhinges.supports import supports
from fourhinges.weights import Weights, motion_of
from tests.samples import E, F, HUGE, WALL, arch, small_bridges
from tests.seconds import second_supports


def random_motion(rng, size=9):
    return Motion(*[rng.randint(-size, size) for _ in range(3)])


class SupportsTest(unittest.TestCase):
    def check(self, bridge, motion):
        found = list(supports(bridge, motion))
        self.assertEqual([(weights.hinges, weights.numbers, parts) for weights, parts in found],
                         second_supports(bridge, motion))
        for pair in found:
            self.assertIsInstance(pair, tuple)
            self.assertIsInstance(pair[0], Weights)
            self.assertEqual(motion_of(bridge, pair[0]), motion * pair[1])
        return found

    def test_all_in_one_line(self):
        found = self.check(F, Motion(0, 0, 1))
        self.assertEqual([(weights.numbers, parts) for weights, parts in found],
                         [((1, 0, 0, 1), 2), ((0, 0, 1, 1), 1)])

    def test_random_motions(self):
        rng = random.Random(41)
        for bridge in small_bridges(40, 60):
            self.check(bridge, random_motion(rng))

    def test_motions_of_one_two_and_three_corners(self):
        rng = random.Random(42)
        seen = set()
        for bridge in small_bridges(43, 60):
            numbers = [0] * bridge.corner_count
            for corner in rng.sample(range(bridge.corner_count), rng.randint(1, 3)):
                numbers[corner] = rng.randint(1, 4)
            found = self.check(bridge, motion_of(bridge, Weights(numbers)))
            seen.update(len(weights.hinges) for weights, _ in found)
        self.assertEqual(seen, {1, 2, 3})

    def test_no_motion(self):
        for bridge in [E, F, WALL] + small_bridges(44, 10):
            found = self.check(bridge, Motion.none())
            self.assertEqual([(weights.numbers, parts) for weights, parts in found],
                             [((0,) * bridge.corner_count, 1)])

    def test_no_support(self):
        self.assertEqual(list(supports(F, Motion(0, 1, 0))), [])
        # A push along the wall passes both joints.
        self.assertEqual(self.check(WALL, Motion(0, 1, 0)), [])
        self.assertNotEqual(self.check(WALL, Motion(0, -1, 0)), [])

    def test_great_motions(self):
        for motion in (Motion(HUGE, -3 * HUGE, HUGE + 2), Motion(0, HUGE, 1), Motion(-HUGE, 5, HUGE)):
            for bridge in (E, F, arch(4)):
                self.check(bridge, motion)

    def test_multiples_share_hinges_and_shares(self):
        rng = random.Random(45)
        for bridge in small_bridges(46, 20):
            motion = random_motion(rng)
            single = list(supports(bridge, motion))
            sixfold = list(supports(bridge, motion * 6))
            self.assertEqual([weights.hinges for weights, _ in single], [weights.hinges for weights, _ in sixfold])
            for (one, parts), (six, six_parts) in zip(single, sixfold):
                self.assertEqual(one * (6 * six_parts), six * parts)

    def test_corners_that_share_a_point(self):
        bridge = Bridge((((0, 0), (4, 0)), ((4, 0), (0, 0)), ((0, 0), (0, 4))))
        found = self.check(bridge, Motion.turning((0, 0)))
        self.assertIn(((0,), (1, 0, 0, 0, 0, 0), 1), [(w.hinges, w.numbers, parts) for w, parts in found])
        self.assertIn((4,), [weights.hinges for weights, _ in found])
        self.assertNotIn((0, 4), [weights.hinges for weights, _ in found])

    def test_many_stones(self):
        self.check(arch(6), Motion(0, 1, 0))
