import random
import unittest

from fourhinges.bridge import Bridge
from fourhinges.errors import OtherSize
from fourhinges.forces import Force
from fourhinges.loads import Load
from fourhinges.mechanisms import mechanism_on, mechanisms
from fourhinges.stands import Falls, Stands, bears, stand_fault, stands
from fourhinges.thrust import Thrust, first_barred, touched
from fourhinges.weights import Weights, work
from tests.samples import (E, F, HUGE, WALL, arch, borne_load, line_bridge, other_in_one, random_load,
                           small_bridges)
from tests.seconds import is_borne

# A weight on the first stone under which E falls.
HEAVY = Load.single(3, 0, Force.hanging(8, 4))


def working(bridge, load=None):
    return [(one, work(bridge, one, load)) for one in mechanisms(bridge) if work(bridge, one, load) > 0]


class StandsTest(unittest.TestCase):
    def check(self, bridge, load=None):
        answer = stands(bridge, load)
        wanted = working(bridge, load)
        if bridge.stones < 4:
            self.assertEqual(is_borne(bridge, load), not wanted)
        self.assertIs(bears(bridge, load), not wanted)
        if wanted:
            self.assertIsInstance(answer, Falls)
            self.assertEqual((answer.mechanism, answer.work), wanted[0])
        else:
            self.assertIsInstance(answer, Stands)
            self.assertIsInstance(answer.thrust, Thrust)
            self.assertIsNone(first_barred(bridge, answer.thrust, load))
        self.assertIsNone(stand_fault(bridge, answer, load))
        return not wanted

    def test_example(self):
        self.assertTrue(self.check(E))
        self.assertFalse(self.check(E, HEAVY))
        self.assertEqual(stands(E, HEAVY).work, 16)

    def test_borne_loads(self):
        rng = random.Random(51)
        for bridge in small_bridges(50, 80):
            load = borne_load(rng, bridge)
            self.assertTrue(self.check(bridge, load))
            self.assertTrue(self.check(bridge.with_own(bridge.total(load))))

    def test_loads_that_differ_from_borne_ones_in_one_force(self):
        rng = random.Random(52)
        kinds = [self.check(bridge, other_in_one(rng, borne_load(rng, bridge))) for bridge in small_bridges(53, 120)]
        self.assertGreater(kinds.count(True), 10)
        self.assertGreater(kinds.count(False), 10)

    def test_random_loads(self):
        rng = random.Random(54)
        for bridge in small_bridges(55, 60):
            self.check(bridge)
            self.check(bridge, random_load(rng, bridge.stones))

    def test_great_forces(self):
        rng = random.Random(56)
        for bridge in small_bridges(57, 30):
            load = borne_load(rng, bridge, 10 ** 30)
            self.assertTrue(self.check(bridge, load))
            self.check(bridge, other_in_one(rng, load, 10 ** 30))
            # One part of a great load too much.
            self.check(bridge, other_in_one(rng, load, 1))

    def test_loads_at_the_very_edge(self):
        # The load that E just bears, and one more of 10 ** 30.
        edge = Load.single(3, 0, Force.hanging(4 * 10 ** 30, 4))
        scaled = E.with_own(E.own * 10 ** 30)
        self.assertTrue(self.check(scaled, edge))
        self.assertFalse(self.check(scaled, edge + Load.single(3, 0, Force.hanging(1, 4))))

    def test_all_corners_in_one_line(self):
        rng = random.Random(58)
        for stones in (1, 2, 3, 4):
            for _ in range(8):
                bridge = line_bridge(rng, stones)
                self.assertTrue(self.check(bridge, borne_load(rng, bridge)))
                self.check(bridge)
        self.assertTrue(self.check(F))
        self.assertFalse(self.check(F, Load((Force(0, 0, HUGE),))) and self.check(F, Load((Force(0, 0, -HUGE),))))

    def test_no_mechanism(self):
        self.assertEqual(list(mechanisms(WALL)), [])
        for force in (Force(HUGE, -HUGE, 5), Force.hanging(HUGE, 900), Force(0, 0, -HUGE)):
            self.assertTrue(self.check(WALL, Load((force,))))

    def test_shared_corners(self):
        bridge = Bridge((((0, 0), (0, 2)), ((0, 2), (5, 7)), ((5, 7), (9, 9))))
        rng = random.Random(59)
        kinds = {self.check(bridge, random_load(rng, 2, 4)) for _ in range(30)}
        self.assertEqual(kinds, {True, False})

    def test_eight_stones(self):
        bridge = arch(8)
        self.check(bridge)
        self.assertTrue(self.check(bridge, borne_load(random.Random(60), bridge)))
        self.assertFalse(self.check(bridge, Load.single(8, 1, Force.hanging(10 ** 30, 60))))

    def test_other_size(self):
        for task in (stands, bears):
            for stones in (1, 2, 4):
                with self.assertRaises(OtherSize):
                    task(E, Load.none(stones))


class StandFaultTest(unittest.TestCase):
    def setUp(self):
        self.mechanism = mechanism_on(E, (0, 3, 4, 7))

    def test_stands(self):
        self.assertIsNone(stand_fault(E, Stands(Thrust(Force(2, 3, 2), 2))))
        self.assertEqual(stand_fault(E, Stands(Thrust(Force.none()))), "corner")
        self.assertEqual(stand_fault(E, Stands(Thrust(Force(6, 11, 6), 7))), "corner")
        self.assertEqual(stand_fault(E, Stands(Thrust(Force(2, 3, 2), 2)), HEAVY), "corner")
        self.assertEqual(touched(WALL, Thrust(Force.none())), (0, 1, 2, 3))
        self.assertIsNone(stand_fault(WALL, Stands(Thrust(Force.none()))))

    def test_falls(self):
        self.assertIsNone(stand_fault(E, Falls(self.mechanism, 16), HEAVY))
        short = Weights((1, 0, 0, 1))
        self.assertEqual(stand_fault(E, Falls(short, 16), HEAVY), "size")
        for wrong in (self.mechanism * 2, self.mechanism * 0, Weights((1, 0, 0, 5, 7, 0, 0, 4)),
                      self.mechanism + mechanism_on(E, (0, 1, 2, 5))):
            self.assertEqual(stand_fault(E, Falls(wrong, work(E, wrong, HEAVY)), HEAVY), "mechanism")
            self.assertEqual(stand_fault(E, Falls(wrong, -1), HEAVY), "mechanism")
        for amount in (15, 17, 0, -16, HUGE):
            self.assertEqual(stand_fault(E, Falls(self.mechanism, amount), HEAVY), "work")

    def test_a_work_that_is_not_above_0(self):
        self.assertEqual(stand_fault(E, Falls(self.mechanism, -16)), "work")
        none = E.with_own(Load.none(3))
        self.assertEqual(stand_fault(none, Falls(self.mechanism, 0)), "work")

    def test_several_faults(self):
        self.assertEqual(stand_fault(E, Falls(Weights((0, 0, 0, 0)), -1)), "size")
        self.assertEqual(stand_fault(E, Falls(Weights((1,) * 8), -1)), "mechanism")

    def test_a_later_mechanism(self):
        rng = random.Random(61)
        later = 0
        for bridge in small_bridges(62, 40):
            load = random_load(rng, bridge.stones)
            for mechanism, amount in working(bridge, load):
                self.assertIsNone(stand_fault(bridge, Falls(mechanism, amount), load))
                self.assertEqual(stand_fault(bridge, Falls(mechanism, amount + 1), load), "work")
                later += mechanism != stands(bridge, load).mechanism
        self.assertGreater(later, 5)

    def test_a_mechanism_of_another_bridge(self):
        other = arch(3)
        for mechanism in mechanisms(other):
            answer = Falls(mechanism, work(E, mechanism, HEAVY))
            self.assertEqual(stand_fault(E, answer, HEAVY), "mechanism")

    def test_other_size_comes_first(self):
        for answer in (Stands(Thrust(Force.none())), Falls(Weights((1, 0, 0, 1)), 1)):
            with self.assertRaises(OtherSize):
                stand_fault(E, answer, Load.none(2))

    def test_results_keep_their_arguments(self):
        thrust = Thrust(Force.none())
        self.assertIs(Stands(thrust=thrust).thrust, thrust)
        falls = Falls(work=5, mechanism=self.mechanism)
        self.assertEqual((falls.mechanism, falls.work), (self.mechanism, 5))
