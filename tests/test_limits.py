import itertools
import random
import unittest
from fractions import Fraction
from math import gcd, lcm

from fourhinges.errors import BadLimit, OtherSize
from fourhinges.forces import Force
from fourhinges.limits import Limit, LimitedFalls, kept, limited_mechanisms, limited_stands
from fourhinges.loads import Load
from fourhinges.mechanisms import mechanisms
from fourhinges.motions import Motion
from fourhinges.stands import Stands
from fourhinges.thrust import Thrust, first_barred
from fourhinges.weights import Weights, motion_of, work
from tests.samples import (E, F, HUGE, NO_WHOLE, WALL, arch, borne_load, random_thrust, small_bridges)
from tests.seconds import can_be_met, corner_demands, solved, turns

ACROSS = Motion(0, 1, 0)


def kinds_of(motion):
    return (motion.turn, motion.across, motion.up)


def random_motion(rng, size=4):
    return Motion(*[rng.randint(-size, size) for _ in range(3)])


def random_limits(rng, bridge, count=None):
    """Limits, some of which are equal, opposite, none or turns about a corner."""
    found = []
    for _ in range(rng.randint(0, 4) if count is None else count):
        motion = random_motion(rng)
        if rng.random() < 0.3:
            motion = Motion.turning(bridge.point(rng.randrange(bridge.corner_count)), rng.choice((-2, -1, 1)))
        if rng.random() < 0.2:
            motion = Motion.none()
        if found and rng.random() < 0.3:
            motion = rng.choice(found).motion * rng.choice((1, -1, -2))
        found.append(Limit(motion, rng.randint(-3, 20)))
    return found


def limit_demands(limits):
    """As for corners in tests.seconds."""
    return [(kinds_of(limit.motion), limit.most) for limit in limits]


def second_pairs(bridge, limits):
    """All limited mechanisms, by solving for each set of at most four places."""
    vectors = turns(bridge) + [kinds_of(limit.motion) for limit in limits]
    found = []
    for size in range(1, 5):
        for places in itertools.combinations(range(len(vectors)), size):
            shares = solved([vectors[place] for place in places[1:]], [-number for number in vectors[places[0]]])
            if shares is None or any(share <= 0 for share in shares):
                continue
            parts = lcm(1, *[share.denominator for share in shares])
            numbers = [0] * len(vectors)
            for place, share in zip(places, [Fraction(1)] + shares):
                numbers[place] = int(share * parts)
            assert gcd(*numbers) == 1
            found.append((places, tuple(numbers)))
    count = bridge.corner_count
    return [(Weights(numbers[:count]), numbers[count:]) for _, numbers in sorted(found)]


def joined(bridge, limits, weights, shares):
    motion = motion_of(bridge, weights)
    for limit, share in zip(limits, shares):
        motion = motion + limit.motion * share
    return motion


class LimitTest(unittest.TestCase):
    def test_attributes(self):
        limit = Limit(most=-HUGE, motion=ACROSS)
        self.assertEqual((limit.motion, limit.most), (ACROSS, -HUGE))
        self.assertEqual(Limit(ACROSS, 0).most, 0)

    def test_equality(self):
        self.assertTrue(Limit(ACROSS, 3) == Limit(Motion(0, 1, 0), 3))
        self.assertFalse(Limit(ACROSS, 3) != Limit(Motion(0, 1, 0), 3))
        for other in (Limit(ACROSS, 4), Limit(-ACROSS, 3), (ACROSS, 3), ACROSS, 3, None):
            self.assertFalse(Limit(ACROSS, 3) == other)
            self.assertTrue(Limit(ACROSS, 3) != other)

    def test_bad_limit(self):
        for motion in (None, 3, (0, 1, 0), Force(0, 1, 0), Limit(ACROSS, 1), Motion):
            for most in (3, None, "3"):
                with self.assertRaises(BadLimit) as caught:
                    Limit(motion, most)
                self.assertEqual(caught.exception.what, "motion")
        for most in NO_WHOLE:
            with self.assertRaises(BadLimit) as caught:
                Limit(ACROSS, most)
            self.assertEqual(caught.exception.what, "most")


class KeptTest(unittest.TestCase):
    def test_kept(self):
        rng = random.Random(330)
        kinds = []
        for _ in range(200):
            thrust = random_thrust(rng)
            limits = random_limits(rng, E)
            wanted = all(Fraction(*limit.motion.measure_of(thrust)) <= limit.most for limit in limits)
            kinds.append(kept(limits, thrust))
            self.assertIs(kinds[-1], wanted)
            self.assertIs(kept(tuple(limits), thrust), wanted)
        self.assertGreater(kinds.count(True), 20)
        self.assertGreater(kinds.count(False), 20)

    def test_edges(self):
        thrust = Thrust(Force(7, 0, 0), 2)
        self.assertEqual([kept((Limit(ACROSS, most),), thrust) for most in (3, 4)], [False, True])
        self.assertEqual([kept((Limit(ACROSS, most),), Thrust(Force(8, 0, 0), 2)) for most in (3, 4)], [False, True])
        self.assertEqual([kept((Limit(Motion.none(), most),), thrust) for most in (-1, 0)], [False, True])
        self.assertTrue(kept((), thrust))
        self.assertFalse(kept([Limit(ACROSS, 9)] * 3 + [Limit(ACROSS, 3)], thrust))

    def test_bad_limits(self):
        check_bad_limits(self, lambda limits: kept(limits, Thrust(Force.none())))


def check_bad_limits(test, call):
    limit = Limit(ACROSS, 1)
    for limits in (None, limit, 3, "ab", {0: limit}, {limit.most}, (limit,) * 5, [limit] * 5, (3,) * 5):
        with test.assertRaises(BadLimit) as caught:
            call(limits)
        test.assertEqual(caught.exception.what, "count")
    for limits in ((3,), [None], (limit, ACROSS), [limit] * 3 + ["x"], (limit, (ACROSS, 1))):
        with test.assertRaises(BadLimit) as caught:
            call(limits)
        test.assertEqual(caught.exception.what, "limit")


class LimitedMechanismsTest(unittest.TestCase):
    def check(self, bridge, limits):
        found = list(limited_mechanisms(bridge, limits))
        self.assertEqual(found, second_pairs(bridge, limits))
        for weights, shares in found:
            self.assertIsInstance(weights, Weights)
            self.assertIsInstance(shares, tuple)
            self.assertEqual(len(shares), len(limits))
            self.assertTrue(joined(bridge, limits, weights, shares).is_none)
        free = [weights for weights, shares in found if not any(shares)]
        self.assertEqual(free, list(mechanisms(bridge)))
        return found

    def test_small_bridges(self):
        rng = random.Random(331)
        counts = [len(self.check(bridge, random_limits(rng, bridge))) for bridge in small_bridges(332, 50)]
        self.assertGreater(max(counts), 20)

    def test_no_limits(self):
        for bridge in (E, F, WALL):
            self.assertEqual(list(limited_mechanisms(bridge, ())), [(one, ()) for one in mechanisms(bridge)])
            self.check(bridge, [])

    def test_motions_that_are_none(self):
        empty = Weights((0,) * 8)
        found = self.check(E, [Limit(Motion.none(), 3), Limit(ACROSS, 1), Limit(Motion.none(), -1)])
        self.assertIn((empty, (1, 0, 0)), found)
        self.assertIn((empty, (0, 0, 1)), found)
        self.assertEqual([shares for _, shares in found if shares[0] or shares[2]], [(1, 0, 0), (0, 0, 1)])

    def test_opposite_and_equal_motions(self):
        empty = Weights((0,) * 8)
        motion = Motion(2, -3, 5)
        found = self.check(E, [Limit(motion, 1), Limit(-motion, 1), Limit(motion, 2), Limit(-motion * 3, 2)])
        pairs = [shares for weights, shares in found if weights == empty]
        self.assertEqual(pairs, [(1, 1, 0, 0), (3, 0, 0, 1), (0, 1, 1, 0), (0, 0, 3, 1)])

    def test_limits_alone(self):
        # Three and four motions that add up to none, with shares of their own.
        limits = [Limit(Motion(1, 0, 0), 1), Limit(Motion(0, 2, 0), 1), Limit(Motion(0, 0, 3), 1),
                  Limit(Motion(-1, -1, -1), 1)]
        self.assertIn((Weights((0,) * 8), (6, 3, 2, 6)), self.check(E, limits))
        limits = [Limit(Motion(2, 0, 0), 1), Limit(Motion(0, 2, 0), 1), Limit(Motion(-1, -3, 0), 1)]
        self.assertIn((Weights((0,) * 8), (1, 3, 2)), self.check(E, limits))

    def test_a_large_bridge(self):
        rng = random.Random(333)
        bridge = arch(8)
        limits = random_limits(rng, bridge, 4)
        found = list(limited_mechanisms(bridge, limits))
        places = [weights.hinges + tuple(bridge.corner_count + at for at, share in enumerate(shares) if share)
                  for weights, shares in found]
        self.assertEqual(places, sorted(set(places)))
        self.assertTrue(all(len(some) <= 4 for some in places))
        for weights, shares in found[::20]:
            self.assertTrue(joined(bridge, limits, weights, shares).is_none)
            self.assertEqual(gcd(*weights.numbers, *shares), 1)

    def test_errors(self):
        check_bad_limits(self, lambda limits: next(limited_mechanisms(E, limits)))


class LimitedStandsTest(unittest.TestCase):
    def check(self, bridge, limits, load=None):
        answer = limited_stands(bridge, limits, load)
        works = [(weights, shares, work(bridge, weights, load)) for weights, shares in second_pairs(bridge, limits)]
        wanted = [(weights, shares, amount) for weights, shares, amount in works
                  if amount > sum(share * limit.most for share, limit in zip(shares, limits))]
        self.assertEqual(can_be_met(corner_demands(bridge, load) + limit_demands(limits)), not wanted)
        if wanted:
            self.assertIsInstance(answer, LimitedFalls)
            self.assertEqual((answer.weights, answer.shares, answer.work), wanted[0])
        else:
            self.assertIsInstance(answer, Stands)
            self.assertIsInstance(answer.thrust, Thrust)
            self.assertIsNone(first_barred(bridge, answer.thrust, load))
            self.assertTrue(kept(limits, answer.thrust))
        return not wanted

    def test_example(self):
        self.assertTrue(self.check(E, (Limit(ACROSS, 1),)))
        self.assertFalse(self.check(E, (Limit(ACROSS, 0),)))

    def test_small_bridges(self):
        rng = random.Random(334)
        kinds = []
        for bridge in small_bridges(335, 120):
            load = borne_load(rng, bridge)
            limits = random_limits(rng, bridge, rng.randint(0, 3))
            kinds.append(self.check(bridge, limits, load))
            if not any(limit.motion.is_none for limit in limits):
                # With room enough the limits do not matter.
                self.assertTrue(self.check(bridge, [Limit(one.motion, 10 ** 9) for one in limits[:1]], load))
        self.assertGreater(kinds.count(True), 20)
        self.assertGreater(kinds.count(False), 10)

    def test_exactly_at_the_limit(self):
        # The push across of E is from 4 / 5 to 4 / 3.
        for most, times, stands in ((4, 5, True), (3, 5, False), (8, 10, True), (7, 10, False)):
            bridge = E.with_own(E.own * times)
            self.assertEqual(self.check(bridge, [Limit(ACROSS, most)]), stands)
        bridge = E.with_own(E.own * 15)
        for low, high, stands in ((12, 20, True), (20, 20, True), (21, 30, False), (5, 11, False), (19, 18, False)):
            self.assertEqual(self.check(bridge, [Limit(ACROSS, high), Limit(-ACROSS, -low)]), stands)

    def test_all_corners_in_one_line(self):
        for motion in (ACROSS, -ACROSS, Motion(0, 0, 1), Motion(1, 0, 0), Motion(-1, 2, 3), Motion.none()):
            for most in (-5, 0, 5):
                self.check(F, [Limit(motion, most)])
                self.check(F, [Limit(motion, most), Limit(ACROSS, 2), Limit(-ACROSS, -2)])

    def test_no_limits(self):
        self.assertTrue(self.check(E, ()))
        self.assertFalse(self.check(E, (), Load.single(3, 0, Force.hanging(8, 4))))
        answer = limited_stands(E, [], Load.single(3, 0, Force.hanging(8, 4)))
        self.assertEqual((answer.weights.hinges, answer.shares, answer.work), ((0, 3, 4, 7), (), 16))

    def test_later_changes(self):
        limits = [Limit(ACROSS, 0)]
        answer = limited_stands(E, limits)
        before = (answer.weights, answer.shares, answer.work)
        limits.append(Limit(ACROSS, 9))
        limits[0] = None
        self.assertEqual((answer.weights, answer.shares, answer.work), before)

    def test_errors(self):
        check_bad_limits(self, lambda limits: limited_stands(E, limits))
        for limits in ((), None, (3,), [Limit(ACROSS, 0)]):
            with self.assertRaises(OtherSize):
                limited_stands(E, limits, Load.none(2))

    def test_results_keep_their_arguments(self):
        answer = LimitedFalls(work=3, shares=(2,), weights=1)
        self.assertEqual((answer.weights, answer.shares, answer.work), (1, (2,), 3))
        self.assertEqual(LimitedFalls(1, 2, 3).work, 3)
