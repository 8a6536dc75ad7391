import random
import unittest
from fractions import Fraction

from fourhinges.bridge import Bridge
from fourhinges.errors import NotStanding, OtherSize
from fourhinges.forces import Force
from fourhinges.greatest import Endless, Greatest, greatest, greatest_fault
from fourhinges.loads import Load
from fourhinges.mechanisms import mechanism_on
from fourhinges.motions import Motion
from fourhinges.stands import stands
from fourhinges.thrust import Thrust, first_barred, passes
from fourhinges.weights import Weights, work
from tests.samples import E, F, HUGE, WALL, arch, borne_load, line_bridge, small_bridges
from tests.seconds import can_be_met, corner_demands, second_supports
from tests.test_supports import random_motion

ACROSS = Motion(0, 1, 0)
HEAVY = Load.single(3, 0, Force.hanging(8, 4))


class GreatestTest(unittest.TestCase):
    def check(self, bridge, motion, load=None):
        answer = greatest(bridge, motion, load)
        wanted = second_supports(bridge, motion)
        if wanted:
            self.check_greatest(bridge, motion, load, answer, wanted)
        else:
            self.check_endless(bridge, motion, answer)
        self.assertIsNone(greatest_fault(bridge, motion, answer, load))
        return bool(wanted)

    def check_greatest(self, bridge, motion, load, answer, wanted):
        self.assertIsInstance(answer, Greatest)
        least = min(Fraction(-work(bridge, Weights(numbers), load), parts) for _, numbers, parts in wanted)
        self.assertEqual(answer.amount, (least.numerator, least.denominator))
        self.assertIsNone(first_barred(bridge, answer.thrust, load))
        self.assertEqual(motion.measure_of(answer.thrust), answer.amount)
        self.assertIn((answer.weights.hinges, answer.weights.numbers, answer.parts), wanted)
        self.assertEqual(Fraction(-work(bridge, answer.weights, load), answer.parts), least)

    def check_endless(self, bridge, motion, answer):
        self.assertIsInstance(answer, Endless)
        self.assertIsInstance(answer.force, Force)
        bare = bridge.with_own(Load.none(bridge.stones))
        self.assertTrue(all(passes(bare, Thrust(answer.force), joint) for joint in range(bridge.stones + 1)))
        self.assertGreater(motion.measure(answer.force), 0)

    def test_examples(self):
        self.check(E, ACROSS)
        self.assertEqual(greatest(E, ACROSS).amount, (4, 3))
        self.assertEqual(greatest(E, -ACROSS).amount, (-4, 5))
        self.check(F, Motion(0, 0, 1))
        self.assertEqual(greatest(F, Motion(0, 0, 1)).amount, (0, 1))
        self.assertIsInstance(greatest(F, ACROSS), Endless)

    def test_random_motions(self):
        rng = random.Random(71)
        kinds = []
        for bridge in small_bridges(70, 100):
            load = borne_load(rng, bridge)
            kinds.append(self.check(bridge, random_motion(rng), load))
            kinds.append(self.check(bridge.with_own(bridge.total(load)), random_motion(rng)))
        self.assertGreater(kinds.count(True), 20)
        self.assertGreater(kinds.count(False), 20)

    def test_motions_about_corners(self):
        rng = random.Random(72)
        for bridge in small_bridges(73, 40):
            load = borne_load(rng, bridge)
            corner = rng.randrange(bridge.corner_count)
            motion = Motion.turning(bridge.point(corner), rng.choice((1, -1, 3)))
            self.check(bridge, motion, load)

    def test_nothing_is_above_the_greatest(self):
        rng = random.Random(74)
        for bridge in small_bridges(75, 30):
            load = borne_load(rng, bridge)
            motion = random_motion(rng)
            answer = greatest(bridge, motion, load)
            numbers = (-motion.turn, -motion.across, -motion.up)
            if isinstance(answer, Greatest):
                amount = Fraction(*answer.amount)
                demands = corner_demands(bridge, load)
                self.assertTrue(can_be_met(demands + [(numbers, -amount)]))
                self.assertFalse(can_be_met(demands + [(numbers, -amount - Fraction(1, 1000))]))
            else:
                self.assertTrue(can_be_met(corner_demands(bridge, load) + [(numbers, -HUGE)]))

    def test_no_motion(self):
        for bridge in (E, F, WALL):
            answer = greatest(bridge, Motion.none())
            self.assertEqual((answer.amount, answer.weights.hinges, answer.parts), ((0, 1), (), 1))
            self.check(bridge, Motion.none())

    def test_all_corners_in_one_line(self):
        rng = random.Random(76)
        kinds = []
        for stones in (1, 2, 3):
            for motion in (ACROSS, Motion(0, 0, 1), Motion(1, 0, 0), Motion(0, 1, -2), Motion(0, -1, 2)):
                bridge = line_bridge(rng, stones)
                kinds.append(self.check(bridge, motion, borne_load(rng, bridge)))
        self.assertIn(False, kinds)
        # A push along the line of the corners may grow in both directions.
        self.assertEqual([self.check(F, motion) for motion in (ACROSS, -ACROSS)], [False, False])
        flat = Bridge((((0, 0), (4, 0)), ((1, 0), (5, 0))))
        for motion in (Motion(1, 0, -1), Motion(1, 0, -4), Motion(-1, 0, 3), Motion(0, 0, 1)):
            self.check(flat, motion)

    def test_crossed_by_one_line(self):
        self.assertFalse(self.check(WALL, ACROSS))
        self.assertTrue(self.check(WALL, -ACROSS))
        sleeve = Bridge((((0, 0), (0, 9)), ((5, 1), (6, 8)), ((11, -2), (12, 5))))
        self.assertFalse(self.check(sleeve, ACROSS))

    def test_an_endless_measure_of_1(self):
        unit = Bridge((((0, 0), (0, 1)), ((1, 0), (1, 1))))
        self.assertFalse(self.check(unit, ACROSS))
        self.assertEqual(greatest(unit, ACROSS).force.across, 1)

    def test_no_line_crosses(self):
        for motion in (ACROSS, -ACROSS, Motion(0, 0, 1), Motion(0, 0, -1), Motion(1, 0, 0), Motion(-1, 0, 0)):
            self.assertTrue(self.check(E, motion))

    def test_least_measure(self):
        rng = random.Random(77)
        for bridge in small_bridges(78, 20):
            load = borne_load(rng, bridge)
            motion = random_motion(rng)
            high, low = greatest(bridge, motion, load), greatest(bridge, -motion, load)
            if isinstance(high, Greatest) and isinstance(low, Greatest):
                self.assertGreaterEqual(Fraction(*high.amount), -Fraction(*low.amount))

    def test_great_numbers(self):
        rng = random.Random(79)
        for bridge in small_bridges(80, 20) + [E, arch(4)]:
            self.check(bridge, random_motion(rng, 10 ** 30), borne_load(rng, bridge, 10 ** 30))

    def test_many_stones(self):
        bridge = arch(6)
        for motion in (ACROSS, -ACROSS, Motion.none(), Motion.turning((3, 4))):
            self.check(bridge, motion, borne_load(random.Random(81), bridge))

    def test_not_standing(self):
        with self.assertRaises(NotStanding) as caught:
            greatest(E, ACROSS, HEAVY)
        self.assertEqual(caught.exception.mechanism, stands(E, HEAVY).mechanism)

    def test_not_standing_comes_before_endless(self):
        load = Load((Force(0, 0, HUGE),))
        fallen = load if not isinstance(stands(F, load), type(stands(F))) else -load
        self.assertIsInstance(greatest(F, ACROSS), Endless)
        with self.assertRaises(NotStanding) as caught:
            greatest(F, ACROSS, fallen)
        self.assertEqual(caught.exception.mechanism, stands(F, fallen).mechanism)

    def test_other_size_comes_first(self):
        with self.assertRaises(OtherSize):
            greatest(E, ACROSS, Load.none(4))


class GreatestFaultTest(unittest.TestCase):
    def setUp(self):
        self.right = greatest(E, ACROSS)

    def judged(self, **changed):
        parts = {name: getattr(self.right, name) for name in ("amount", "thrust", "weights", "parts")}
        parts.update(changed)
        return greatest_fault(E, ACROSS, Greatest(**parts))

    def test_right(self):
        self.assertIsNone(self.judged())
        self.assertIsNone(self.judged(weights=self.right.weights * 2, parts=self.right.parts * 2))

    def test_it_does_not_ask_for_independence(self):
        # Under this load the mechanism works nothing, so it can be added to the weights.
        load = Load.single(3, 0, Force.hanging(4, 4))
        mechanism = mechanism_on(E, (0, 3, 4, 7))
        self.assertEqual(work(E, mechanism, load), 0)
        right = greatest(E, ACROSS, load)
        answer = Greatest(right.amount, right.thrust, right.weights + mechanism, right.parts)
        self.assertGreater(len(answer.weights.hinges), 3)
        self.assertIsNone(greatest_fault(E, ACROSS, answer, load))

    def test_each_word(self):
        self.assertEqual(self.judged(thrust=Thrust(Force.none())), "thrust")
        self.assertEqual(self.judged(thrust=Thrust(Force(2, 3, 2), 2)), "measure")
        self.assertEqual(self.judged(amount=(5, 3)), "measure")
        self.assertEqual(self.judged(weights=Weights((1, 0, 0, 1))), "size")
        self.assertEqual(self.judged(parts=0), "parts")
        self.assertEqual(self.judged(parts=-self.right.parts), "parts")
        self.assertEqual(self.judged(parts=self.right.parts + 1), "motion")
        self.assertEqual(self.judged(weights=self.right.weights * 2), "motion")

    def test_work(self):
        works = set()
        for numbers, parts in [(numbers, parts) for _, numbers, parts in second_supports(E, ACROSS)]:
            works.add(self.judged(weights=Weights(numbers), parts=parts))
        self.assertEqual(works, {None, "work"})

    def test_several_faults(self):
        short = Weights((1, 0, 0, 1))
        self.assertEqual(self.judged(thrust=Thrust(Force.none()), amount=(9, 1), weights=short, parts=0), "thrust")
        self.assertEqual(self.judged(amount=(9, 1), weights=short, parts=0), "measure")
        self.assertEqual(self.judged(weights=short, parts=0), "size")
        self.assertEqual(self.judged(weights=self.right.weights * 2, parts=0), "parts")
        self.assertEqual(self.judged(weights=self.right.weights * 3), "motion")

    def test_load(self):
        load = Load.single(3, 1, Force.hanging(2, 12))
        answer = greatest(E, ACROSS, load)
        self.assertIsNone(greatest_fault(E, ACROSS, answer, load))
        self.assertIsNotNone(greatest_fault(E, ACROSS, answer))

    def test_endless(self):
        self.assertIsNone(greatest_fault(WALL, ACROSS, Endless(Force(1, 0, -1))))
        self.assertEqual(greatest_fault(WALL, ACROSS, Endless(Force(1, 0, 1))), "force")
        self.assertEqual(greatest_fault(WALL, ACROSS, Endless(Force(-1, 0, 1))), "force")
        self.assertEqual(greatest_fault(WALL, ACROSS, Endless(Force.none())), "measure")
        self.assertEqual(greatest_fault(WALL, Motion(0, 0, 1), Endless(Force(1, 0, -1))), "measure")
        self.assertEqual(greatest_fault(WALL, -ACROSS, Endless(Force(1, 0, 1))), "force")

    def test_endless_without_the_own_load(self):
        heavy = WALL.with_own(Load((Force.hanging(HUGE, 4),)))
        self.assertIsNone(greatest_fault(heavy, ACROSS, Endless(Force(1, 0, -1)), Load((Force(0, 5, 7),))))

    def test_other_size_comes_first(self):
        for answer in (self.right, Endless(Force.none()), Greatest((0, 1), Thrust(Force.none()), Weights((0,) * 4), 0)):
            with self.assertRaises(OtherSize):
                greatest_fault(E, ACROSS, answer, Load.none(2))

    def test_results_keep_their_arguments(self):
        thrust = Thrust(Force.none())
        weights = Weights((0,) * 8)
        answer = Greatest(parts=3, weights=weights, thrust=thrust, amount=(1, 2))
        self.assertEqual((answer.amount, answer.thrust, answer.weights, answer.parts), ((1, 2), thrust, weights, 3))
        self.assertEqual(Endless(force=Force(1, 2, 3)).force, Force(1, 2, 3))
