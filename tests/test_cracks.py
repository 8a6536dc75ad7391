import itertools
import random
import unittest

from fourhinges.cracks import Following, follow, open_sets, open_together
from fourhinges.errors import BadCorners, NotStanding, OtherSize
from fourhinges.forces import Force
from fourhinges.greatest import Endless, Greatest, greatest, greatest_fault
from fourhinges.loads import Load
from fourhinges.motions import Motion
from fourhinges.stands import bears, stands
from fourhinges.through import through
from fourhinges.thrust import Thrust, first_barred, touched
from fourhinges.weights import Weights, stone_motions
from tests.samples import (E, F, WALL, arch, borne_load, misses, random_bridge, random_force, random_load,
                           small_bridges)
from tests.seconds import can_be_met, corner_demands, is_borne, without_equal
from tests.test_limits import ACROSS, random_motion

HEAVY = Load.single(3, 0, Force.hanging(8, 4))


class FollowTest(unittest.TestCase):
    def check(self, bridge, motion, load=None):
        answer = follow(bridge, motion, load)
        wanted = greatest(bridge, motion, load)
        if isinstance(wanted, Endless):
            self.assertIsInstance(answer, Endless)
            self.assertIsNone(greatest_fault(bridge, motion, answer, load))
            return False
        self.assertIsInstance(answer, Following)
        told = Greatest(wanted.amount, answer.thrust, answer.weights, answer.parts)
        self.assertIsNone(greatest_fault(bridge, motion, told, load))
        self.assertIsInstance(answer.motions, tuple)
        self.assertEqual(answer.motions, stone_motions(bridge, answer.weights))
        self.check_neighbours(bridge, motion, answer)
        seen = touched(bridge, answer.thrust, load)
        self.assertTrue(set(answer.weights.hinges) <= set(seen))
        return True

    def check_neighbours(self, bridge, motion, answer):
        """Neighbours agree at a hinge, and move alike where there is none; they open at the other corner."""
        moved = (motion * answer.parts,) + answer.motions + (Motion.none(),)
        for joint in range(bridge.stones + 1):
            left, right = moved[joint], moved[joint + 1]
            numbers = answer.weights.numbers[2 * joint:2 * joint + 2]
            if numbers == (0, 0):
                self.assertEqual(left, right)
            elif 0 in numbers:
                corner = 2 * joint + (1 if numbers[0] == 0 else 0)
                self.assertEqual(left.at(bridge.point(corner)), right.at(bridge.point(corner)))
                self.assertNotEqual(left, right)

    def test_small_bridges(self):
        rng = random.Random(360)
        kinds = []
        for bridge in small_bridges(361, 80):
            load = borne_load(rng, bridge)
            kinds.append(self.check(bridge, random_motion(rng), load))
            self.check(bridge.with_own(bridge.total(load)), random_motion(rng))
        self.assertGreater(kinds.count(True), 20)
        self.assertGreater(kinds.count(False), 3)

    def test_example_bridge(self):
        for motion in (ACROSS, -ACROSS, Motion(0, 0, 1), Motion(1, 0, 0), Motion.turning((8, 9), -3)):
            self.assertTrue(self.check(E, motion))

    def test_no_motion(self):
        answer = follow(E, Motion.none())
        self.assertEqual((answer.weights, answer.parts), (Weights((0,) * 8), 1))
        self.assertEqual(answer.motions, (Motion.none(),) * 3)
        self.assertTrue(self.check(E, Motion.none()))

    def test_a_jam(self):
        answer = follow(F, ACROSS)
        self.assertIsInstance(answer, Endless)
        self.assertFalse(self.check(F, ACROSS))
        self.assertFalse(self.check(WALL, -ACROSS) and self.check(WALL, ACROSS))

    def test_the_right_ground(self):
        # Seen from the right ground the bridge is mirrored; the opposite motion of the left one opens the same.
        rng = random.Random(362)
        for bridge in small_bridges(363, 30):
            bridge = bridge.with_own(bridge.total(borne_load(rng, bridge)))
            motion = random_motion(rng)
            turned = Motion(-motion.turn, -motion.across, motion.up)
            one, other = follow(bridge, -motion), follow(bridge.mirrored(), turned)
            self.assertEqual(isinstance(one, Endless), isinstance(other, Endless))

    def test_errors(self):
        for motion in (ACROSS, Motion.none()):
            with self.assertRaises(NotStanding) as caught:
                follow(E, motion, HEAVY)
            self.assertEqual(caught.exception.mechanism, stands(E, HEAVY).mechanism)
            with self.assertRaises(OtherSize):
                follow(E.with_own(E.own + HEAVY), motion, Load.none(2))
        # Before the jam.
        load = Load.single(1, 0, Force.hanging(1, 9))
        with self.assertRaises(NotStanding):
            follow(F, ACROSS, load)

    def test_result_keeps_its_arguments(self):
        answer = Following(motions=(4,), parts=3, weights=2, thrust=1)
        self.assertEqual((answer.thrust, answer.weights, answer.parts, answer.motions), (1, 2, 3, (4,)))
        self.assertEqual(Following(1, 2, 3, 4).motions, 4)


def second_open(bridge, corners, load=None):
    """Whether some passing thrust touches all these corners, by fractions."""
    demands = corner_demands(bridge, load)
    return can_be_met(without_equal(demands, [demands[corner] for corner in corners]))


def load_through(rng, bridge, point, joints):
    """A borne load under which the pushes at these joints can go through a point."""
    pushes = []
    for at, (inner, outer) in enumerate(bridge.joints):
        push = None
        while push is None or not push.about(inner) <= 0 <= push.about(outer):
            push = Force.acting(rng.randint(-9, 9), rng.randint(-9, 9), point) if at in joints else random_force(rng)
        pushes.append(push)
    return Load([after - before for before, after in zip(pushes, pushes[1:])]) - bridge.own


class OpenTogetherTest(unittest.TestCase):
    def check(self, bridge, corners, load=None):
        thrust = open_together(bridge, corners, load)
        self.assertEqual(thrust is not None, second_open(bridge, corners, load))
        if thrust is not None:
            self.assertIsInstance(thrust, Thrust)
            self.assertIsNone(first_barred(bridge, thrust, load))
            self.assertTrue(set(corners) <= set(touched(bridge, thrust, load)))
        return thrust is not None

    def test_sets_of_corners(self):
        rng = random.Random(364)
        kinds = {count: [] for count in range(6)}
        for bridge in small_bridges(365, 40):
            load = borne_load(rng, bridge)
            for count in range(min(6, bridge.corner_count + 1)):
                for _ in range(3):
                    corners = rng.sample(range(bridge.corner_count), count)
                    kinds[count].append(self.check(bridge, rng.choice((list, tuple))(corners), load))
        self.assertTrue(all(kinds[0]))
        for count in (1, 2, 3):
            self.assertGreater(kinds[count].count(True), 5)
            self.assertGreater(kinds[count].count(False), 5)
        self.assertIn(False, kinds[4])
        self.assertIn(False, kinds[5])

    def test_corners_at_one_point(self):
        rng = random.Random(374)
        kinds = []
        for _ in range(60):
            bridge = random_bridge(rng, rng.randint(1, 3), 1)
            for one, other in itertools.combinations(range(bridge.corner_count), 2):
                if bridge.point(one) == bridge.point(other):
                    load = load_through(rng, bridge, bridge.point(one), (one // 2, other // 2))
                    self.assertTrue(self.check(bridge, (one, other), load))
                    kinds.append(self.check(bridge, [other, one], borne_load(rng, bridge)))
        self.assertGreater(len(kinds), 20)
        self.assertIn(False, kinds)

    def test_example_bridge(self):
        self.assertTrue(self.check(E, (0, 2, 4, 6)))
        self.assertTrue(self.check(E, [6, 0]))
        self.assertFalse(self.check(E, (0, 3, 7)))
        self.assertTrue(self.check(F, (0, 1, 2, 3)))

    def test_three_corners_that_are_not_in_one_line(self):
        rng = random.Random(366)
        seen = 0
        for bridge in small_bridges(367, 60):
            load = borne_load(rng, bridge)
            for corners in itertools.combinations(range(bridge.corner_count), 3):
                thrust = open_together(bridge, corners, load)
                (x, y), (a, b), (c, d) = [bridge.point(corner) for corner in corners]
                if thrust is not None and (a - x) * (d - y) != (c - x) * (b - y):
                    seen += 1
                    self.assertEqual(thrust, through(bridge, corners, load))
        self.assertGreater(seen, 30)

    def test_no_corners(self):
        rng = random.Random(368)
        for bridge in small_bridges(369, 30):
            load = random_load(rng, bridge.stones)
            self.assertEqual(open_together(bridge, (), load) is not None, is_borne(bridge, load))
        self.assertIsNone(open_together(E, [], HEAVY))
        self.assertIsNone(open_together(E, (0,), HEAVY))

    def test_errors(self):
        for corners in (None, 3, "01", {0: 1}, {0, 1}, (0, 0), [1, 2, 1], (0, "1"), ((0,),), range(2)):
            with self.assertRaises(BadCorners):
                open_together(E, corners)
        for wrong in misses(8):
            for corners in ((wrong,), [0, 1, wrong], (wrong, 0)):
                with self.assertRaises(BadCorners):
                    open_together(E, corners)
        with self.assertRaises(OtherSize):
            open_together(E, (0, 0), Load.none(2))


class OpenSetsTest(unittest.TestCase):
    def check(self, bridge, load=None):
        found = open_sets(bridge, load)
        corners = range(bridge.corner_count)
        opened = [some for size in range(bridge.corner_count + 1) for some in itertools.combinations(corners, size)
                  if open_together(bridge, some, load) is not None]
        wanted = [some for some in opened if not any(set(some) < set(other) for other in opened)]
        self.assertEqual(found, tuple(sorted(wanted)))
        self.assertIsInstance(found, tuple)
        for some in found:
            self.assertIsInstance(some, tuple)
            self.assertGreater(len(some), 0)
        self.assertEqual(len(found) > 0, bears(bridge, load))
        return len(found)

    def test_small_bridges(self):
        rng = random.Random(370)
        counts = [self.check(bridge, borne_load(rng, bridge)) for bridge in small_bridges(371, 40)]
        self.assertGreater(max(counts), 4)
        self.assertIn(1, counts)

    def test_example(self):
        self.assertEqual(open_sets(F), ((0, 1, 2, 3),))
        self.check(F)
        self.check(E)

    def test_not_borne(self):
        self.assertEqual(open_sets(E, HEAVY), ())
        rng = random.Random(372)
        for bridge in small_bridges(373, 30):
            load = random_load(rng, bridge.stones)
            self.assertEqual(open_sets(bridge, load) == (), not is_borne(bridge, load))

    def test_a_large_bridge(self):
        bridge = arch(8)
        found = open_sets(bridge)
        self.assertEqual(list(found), sorted(set(found)))
        for some in found:
            self.assertIsNotNone(open_together(bridge, some))
            self.assertGreaterEqual(len(some), 3)

    def test_other_size(self):
        with self.assertRaises(OtherSize):
            open_sets(E, Load.none(4))
