import random
import unittest
from fractions import Fraction

from fourhinges.errors import NotSafe, OtherSize
from fourhinges.greatest import Endless, greatest, greatest_fault
from fourhinges.limitedtraffic import LimitedSafe, limited_verdict
from fourhinges.limits import Limit
from fourhinges.motions import Motion
from fourhinges.ratios import ratio
from fourhinges.road import Road
from fourhinges.scenes import Scene, scene_fault, scene_load
from fourhinges.supports import supports
from fourhinges.sure import FixedRange, Sure, fixed_range, sure
from fourhinges.traffic import is_safe, verdict
from fourhinges.weights import Weights, work
from tests.crowds import greatest_work, scenes_of_few, tiny_pair
from tests.roads import R, SINGLE, TURNS
from tests.samples import E, F, WALL
from tests.test_limits import ACROSS, random_motion

QUIET = R.only(())
HEAVY = E.with_own(E.own * 40)
BOTH = Road((0, 8, 16, 24), (SINGLE, TURNS.turned()))


def safe_pairs(seed, count, **changed):
    rng = random.Random(seed)
    found = []
    while len(found) < count:
        bridge, road = tiny_pair(rng, times=rng.choice((0, 10, 30)), **changed)
        if is_safe(bridge, road):
            found.append((bridge, road, random_motion(rng)))
    return found


class SureTest(unittest.TestCase):
    def check(self, bridge, road, motion):
        answer = sure(bridge, road, motion)
        pairs = list(supports(bridge, motion))
        if not pairs:
            self.assertIsInstance(answer, Endless)
            self.assertIsNone(greatest_fault(bridge, motion, answer))
            return None
        self.assertIsInstance(answer, Sure)
        values = [ratio(-greatest_work(bridge, road, weights), parts) for weights, parts in pairs]
        least = min(values, key=lambda pair: Fraction(*pair))
        self.assertEqual(answer.amount, least)
        self.assertEqual((answer.weights, answer.parts), pairs[values.index(least)])
        self.assertIsNone(scene_fault(road, answer.scene))
        load = scene_load(road, answer.scene)
        self.assertEqual(ratio(-work(bridge, answer.weights, load), answer.parts), answer.amount)
        self.assertEqual(greatest(bridge, motion, load).amount, answer.amount)
        return answer

    def test_tiny_roads(self):
        answers = [self.check(*parts) for parts in safe_pairs(350, 50)]
        self.assertGreater(len([one for one in answers if one is not None]), 20)
        self.assertGreater(len([one for one in answers if one is None]), 3)

    def test_each_scene(self):
        seen = 0
        for bridge, road, motion in safe_pairs(351, 40, lanes=1, gap=2):
            scenes = scenes_of_few(road, 150)
            answer = sure(bridge, road, motion)
            if isinstance(answer, Sure) and scenes:
                seen += 1
                amounts = [greatest(bridge, motion, scene_load(road, scene)).amount for scene in scenes]
                self.assertEqual(answer.amount, min(amounts, key=lambda pair: Fraction(*pair)))
        self.assertGreater(seen, 8)

    def test_no_carts(self):
        for motion in (ACROSS, -ACROSS, Motion(0, 0, 1), Motion(1, 2, 3)):
            answer = self.check(E, QUIET, motion)
            self.assertEqual(answer.amount, greatest(E, motion).amount)
            self.assertEqual(answer.scene, Scene(((0, ()),), ((),)))

    def test_no_motion(self):
        answer = self.check(E, QUIET, Motion.none())
        self.assertEqual((answer.amount, answer.weights, answer.parts), ((0, 1), Weights((0,) * 8), 1))
        answer = sure(HEAVY, BOTH, Motion.none())
        self.assertEqual((answer.amount, answer.parts, scene_fault(BOTH, answer.scene)), ((0, 1), 1, None))

    def test_long_carts(self):
        for motion in (ACROSS, Motion(0, -2, 3), Motion(3, 1, 0)):
            answer = sure(HEAVY, BOTH, motion)
            load = scene_load(BOTH, answer.scene)
            self.assertEqual(greatest(HEAVY, motion, load).amount, answer.amount)
            self.assertLessEqual(Fraction(*answer.amount), Fraction(*greatest(HEAVY, motion).amount))

    def test_endless(self):
        road = Road((0, 1), (SINGLE.only(()),))
        self.assertIsNone(self.check(F, road, ACROSS))
        self.assertEqual(self.check(F, road, Motion(0, 0, 1)).amount, (0, 1))
        self.assertIsNone(self.check(WALL, Road((0, 4), (SINGLE,)), ACROSS))
        self.assertEqual(self.check(WALL, Road((0, 4), (SINGLE,)), -ACROSS).amount, (0, 1))

    def test_not_safe(self):
        # Also where the motion has no support.
        for motion in (ACROSS, Motion.none()):
            for bridge, road in ((E, R), (E.with_own(-E.own), QUIET), (F, Road((4, 9), (SINGLE,)))):
                mechanism = verdict(bridge, road).mechanism
                for call in (sure, fixed_range):
                    with self.assertRaises(NotSafe) as caught:
                        call(bridge, road, motion)
                    self.assertEqual(caught.exception.mechanism, mechanism)

    def test_other_size(self):
        for bridge, road in ((E, Road((0, 8), (SINGLE,))), (WALL, R)):
            for call in (sure, fixed_range):
                with self.assertRaises(OtherSize):
                    call(bridge, road, ACROSS)

    def test_results_keep_their_arguments(self):
        answer = Sure(scene=4, parts=3, weights=2, amount=1)
        self.assertEqual((answer.amount, answer.weights, answer.parts, answer.scene), (1, 2, 3, 4))
        self.assertEqual(Sure(1, 2, 3, 4).scene, 4)
        found = FixedRange(high=2, low=1)
        self.assertEqual((found.low, found.high), (1, 2))


class FixedRangeTest(unittest.TestCase):
    def check(self, bridge, road, motion):
        found = fixed_range(bridge, road, motion)
        self.assertIsInstance(found, FixedRange)
        above, below = sure(bridge, road, motion), sure(bridge, road, -motion)
        self.assertEqual(found.high, above.amount if isinstance(above, Sure) else None)
        self.assertEqual(found.low, (-below.amount[0], below.amount[1]) if isinstance(below, Sure) else None)
        return found

    def second_fits(self, found, number):
        low = found.low is None or Fraction(*found.low) <= Fraction(*number)
        return low and (found.high is None or Fraction(*number) <= Fraction(*found.high))

    def test_example(self):
        found = self.check(E, QUIET, ACROSS)
        self.assertEqual((found.low, found.high), ((4, 5), (4, 3)))
        self.assertIs(found.fits((1, 1)), True)
        self.assertIs(found.is_empty, False)

    def test_ends(self):
        found = FixedRange((-1, 2), (3, 4))
        for number, fits in (((-1, 2), True), ((3, 4), True), ((0, 1), True), ((-2, 3), False), ((-501, 1000), False),
                             ((751, 1000), False), ((4, 5), False), ((10 ** 40, 1), False), ((-10 ** 40, 1), False)):
            self.assertIs(found.fits(number), fits)
        for low, high, number, fits in ((None, (1, 2), (-10 ** 40, 1), True), (None, (1, 2), (1, 2), True),
                                        (None, (1, 2), (2, 3), False), ((1, 2), None, (10 ** 40, 1), True),
                                        ((1, 2), None, (1, 2), True), ((1, 2), None, (1, 3), False),
                                        (None, None, (0, 1), True), ((1, 1), (0, 1), (1, 2), False),
                                        ((1, 1), (0, 1), (1, 1), False), ((1, 1), (0, 1), (0, 1), False)):
            self.assertIs(FixedRange(low, high).fits(number), fits)

    def test_is_empty(self):
        for low, high, is_empty in (((1, 2), (1, 2), False), ((1, 2), (1, 3), True), ((1, 3), (1, 2), False),
                                    (None, (0, 1), False), ((0, 1), None, False), (None, None, False),
                                    ((0, 1), (-1, 10 ** 40), True), ((-1, 2), (0, 1), False)):
            self.assertIs(FixedRange(low, high).is_empty, is_empty)

    def test_tiny_roads(self):
        # A whole number fits exactly if both limits together are safe; by [8.8].
        kinds, empty, ends = [], 0, 0
        for bridge, road, motion in safe_pairs(352, 50):
            found = self.check(bridge, road, motion)
            empty += found.is_empty
            ends += found.low is None or found.high is None
            middle = [Fraction(*end) for end in (found.low, found.high) if end is not None]
            around = {int(end) + more for end in middle for more in (-1, 0, 1)} | {0}
            for number in around:
                limits = (Limit(motion, number), Limit(-motion, -number))
                answer = limited_verdict(bridge, road, limits)
                kinds.append(found.fits((number, 1)))
                self.assertEqual(kinds[-1], isinstance(answer, LimitedSafe))
                self.assertEqual(kinds[-1], self.second_fits(found, (number, 1)))
                one = limited_verdict(bridge, road, limits[:1])
                self.assertEqual(isinstance(one, LimitedSafe),
                                 found.low is None or Fraction(*found.low) <= number)
        self.assertTrue(empty and ends)
        self.assertGreater(kinds.count(True), 20)
        self.assertGreater(kinds.count(False), 20)

    def test_no_ends(self):
        road = Road((0, 1), (SINGLE.only(()),))
        found = self.check(F, road, ACROSS)
        self.assertEqual((found.low, found.high), (None, None))
        found = self.check(F, road, Motion(0, 0, 1))
        self.assertEqual((found.low, found.high), ((0, 1), (0, 1)))

    def test_no_motion(self):
        found = self.check(E, QUIET, Motion.none())
        self.assertEqual((found.low, found.high, found.is_empty), ((0, 1), (0, 1), False))
