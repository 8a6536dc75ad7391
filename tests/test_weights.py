import random
import unittest

from fourhinges.errors import BadWeights, InLine, NoCorner, OtherSize
from fourhinges.forces import Force
from fourhinges.loads import Load
from fourhinges.motions import Motion
from fourhinges.ratios import compare_ratios
from fourhinges.through import through
from fourhinges.thrust import first_barred, touched
from fourhinges.weights import Weights, extra_work, motion_of, stone_motions, work
from tests.samples import E, HUGE, NO_WHOLE, misses, random_bridges, random_load, random_weights

W = Weights((1, 0, 0, 5, 7, 0, 0, 3))


def turning(point, turn):
    x, y = point
    return Motion(turn, turn * y, -turn * x)


def opened(bridge, weights, joints):
    """The sum of the turns about the corners of some joints, straight from the words of the document."""
    motion = Motion(0, 0, 0)
    for joint in joints:
        inner, outer = bridge.joints[joint]
        motion = motion + turning(inner, weights.numbers[2 * joint]) - turning(outer, weights.numbers[2 * joint + 1])
    return motion


def work_by_stones(motions, forces):
    return sum(motion.measure(force) for motion, force in zip(motions, forces))


def work_by_corners(bridge, weights, load):
    total = 0
    for joint, (inner, outer) in enumerate(bridge.joints):
        force = load.before(joint)
        total += weights.numbers[2 * joint] * force.about(inner) - weights.numbers[2 * joint + 1] * force.about(outer)
    return total


class WeightsTest(unittest.TestCase):
    def check_bad(self, what, thing):
        with self.assertRaises(BadWeights) as caught:
            Weights(thing)
        self.assertEqual(caught.exception.what, what)

    def test_keeps_its_numbers(self):
        numbers = [1, 2, 0, HUGE]
        weights = Weights(numbers)
        numbers[0] = 9
        numbers.append(9)
        self.assertEqual(weights.numbers, (1, 2, 0, HUGE))
        self.assertIs(type(weights.numbers), tuple)

    def test_counts(self):
        for count in range(4, 19, 2):
            self.assertEqual(len(Weights([0] * count)), count)
        for count in (0, 1, 2, 3, 5, 7, 9, 17, 19, 20, 22):
            self.check_bad("count", [0] * count)
            self.check_bad("count", ["x"] * count)
        for thing in (None, 4, "abcd", {0: 1, 1: 1, 2: 1, 3: 1}, W, iter([1, 1, 1, 1])):
            self.check_bad("count", thing)

    def test_number(self):
        for thing in NO_WHOLE + (-1, -HUGE):
            self.check_bad("number", [thing, 1, 1, 1])
            self.check_bad("number", (1, 1, 1, thing))

    def test_item(self):
        self.assertEqual([W[corner] for corner in range(8)], [1, 0, 0, 5, 7, 0, 0, 3])
        for thing in misses(8):
            with self.assertRaises(NoCorner) as caught:
                W[thing]
            self.assertIs(caught.exception.corner, thing)

    def test_iteration(self):
        self.assertEqual(list(W), [1, 0, 0, 5, 7, 0, 0, 3])
        self.assertEqual(tuple(W), W.numbers)
        self.assertEqual(len(W), 8)

    def test_hinges(self):
        self.assertEqual(W.hinges, (0, 3, 4, 7))
        self.assertEqual(Weights([0] * 6).hinges, ())
        self.assertEqual(Weights([HUGE] * 4).hinges, (0, 1, 2, 3))

    def test_lowest(self):
        self.assertEqual((W * 6).lowest(), W)
        self.assertEqual((W * HUGE).lowest(), W)
        self.assertEqual(W.lowest(), W)
        self.assertEqual(Weights((4, 0, 6, 0)).lowest().numbers, (2, 0, 3, 0))
        self.assertEqual(Weights((0, 0, 0, 0)).lowest().numbers, (0, 0, 0, 0))
        self.assertEqual(Weights((0, 0, 0, 5)).lowest().numbers, (0, 0, 0, 1))

    def test_sums(self):
        one, other = Weights((1, 2, 3, 4)), Weights((50, 0, HUGE, 7))
        self.assertEqual((one + other).numbers, (51, 2, HUGE + 3, 11))
        self.assertEqual((one * 3).numbers, (3, 6, 9, 12))
        self.assertEqual((one * 0).numbers, (0, 0, 0, 0))
        self.assertEqual(one.numbers, (1, 2, 3, 4))
        for count in (6, 8):
            with self.assertRaises(OtherSize):
                one + Weights([1] * count)

    def test_equal(self):
        self.assertTrue(W == Weights([1, 0, 0, 5, 7, 0, 0, 3]))
        for other in (W * 2, Weights((1, 0, 0, 5)), W.numbers, list(W.numbers), None, 8):
            self.assertFalse(W == other)
            self.assertTrue(W != other)


class MotionOfTest(unittest.TestCase):
    def test_numbers(self):
        self.assertEqual(motion_of(E, Weights((1, 0, 0, 0, 0, 0, 0, 0))), Motion(1, -1, 0))
        self.assertEqual(motion_of(E, Weights((0, 0, 0, 1, 0, 0, 0, 0))), Motion(-1, -9, 8))
        self.assertTrue(motion_of(E, W).is_none)

    def test_random(self):
        rng = random.Random(15)
        for bridge in random_bridges(16, 40):
            for most in (3, HUGE):
                weights = random_weights(rng, bridge, most)
                joints = list(range(bridge.stones + 1))
                self.assertEqual(motion_of(bridge, weights), opened(bridge, weights, joints))
                motions = stone_motions(bridge, weights)
                self.assertIs(type(motions), tuple)
                self.assertEqual(motions, tuple([opened(bridge, weights, joints[stone + 1:])
                                                 for stone in range(bridge.stones)]))

    def test_grounds(self):
        # About each corner with a weight, the two neighbours of a joint turn against each other.
        motions = (motion_of(E, W),) + stone_motions(E, W) + (Motion.none(),)
        self.assertEqual(motions[0] - motions[1], Motion.turning((0, -1), 1))
        self.assertEqual(motions[1] - motions[2], -Motion.turning((8, 9), 5))
        self.assertEqual(motions[2] - motions[3], Motion.turning((16, 7), 7))
        self.assertEqual(motions[3] - motions[4], -Motion.turning((24, 1), 3))

    def test_other_size(self):
        for count in (4, 6, 10, 18):
            for function in (motion_of, stone_motions, work):
                with self.assertRaises(OtherSize):
                    function(E, Weights([1] * count))


class WorkTest(unittest.TestCase):
    def test_example(self):
        for a, b, c in ((1, 0, 0), (0, 1, 0), (0, 0, 1), (2, 3, 5), (HUGE, 1, 1)):
            load = Load((Force.hanging(a, 4), Force.hanging(b, 12), Force.hanging(c, 20)))
            self.assertEqual(extra_work(E, W, load), 4 * (a - 2 * b - 3 * c))
            self.assertEqual(work(E, W, load), 4 * (a - 2 * b - 3 * c) - 16)
        self.assertEqual(work(E, W), -16)
        self.assertEqual(work(E, W, load=None), -16)

    def test_both_ways(self):
        rng = random.Random(17)
        for bridge in random_bridges(18, 40):
            for size in (9, HUGE):
                weights = random_weights(rng, bridge, size)
                load = random_load(rng, bridge.stones, size)
                motions = stone_motions(bridge, weights)
                total = bridge.own + load
                self.assertEqual(work(bridge, weights, load), work_by_stones(motions, total))
                self.assertEqual(work(bridge, weights, load), work_by_corners(bridge, weights, total))
                self.assertEqual(work(bridge, weights), work_by_stones(motions, bridge.own))
                self.assertEqual(extra_work(bridge, weights, load), work_by_stones(motions, load))

    def test_other_size(self):
        for stones in (1, 2, 4):
            with self.assertRaises(OtherSize):
                work(E, W, Load.none(stones))
            with self.assertRaises(OtherSize):
                extra_work(E, W, Load.none(stones))
        with self.assertRaises(OtherSize):
            extra_work(E, Weights([1] * 6), E.own)
        with self.assertRaises(OtherSize):
            extra_work(E, Weights([1] * 10), E.own)

    def test_measure_of_a_passing_thrust(self):
        rng = random.Random(19)
        passing = equal = 0
        for bridge in random_bridges(20, 400, 3):
            corners = rng.sample(range(bridge.corner_count), 3)
            try:
                thrust = through(bridge, corners)
            except InLine:
                continue
            if first_barred(bridge, thrust) is not None:
                continue
            passing += 1
            weights = random_weights(rng, bridge)
            measure = motion_of(bridge, weights).measure_of(thrust)
            order = compare_ratios(measure, (-work(bridge, weights), 1))
            touches = set(weights.hinges) <= set(touched(bridge, thrust))
            self.assertEqual(order, 0 if touches else -1)
            equal += touches
        self.assertGreater(passing, 5)
        self.assertGreater(equal, 0)
