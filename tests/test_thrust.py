import itertools
import random
import unittest
from fractions import Fraction

from fourhinges.bridge import Bridge
from fourhinges.errors import BadThrust, InLine, NoCorner, NoJoint, OtherSize
from fourhinges.forces import Force
from fourhinges.loads import Load
from fourhinges.thrust import (
    Thrust, crossing, first_barred, mixed, moment_at, passes, push_at, thrust_line, touched)
from fourhinges.through import through
from tests.samples import E, HUGE, NO_WHOLE, kinds_of, misses, random_bridges, random_load, random_thrust

U = Thrust(Force(2, 3, 2), 2)
NOTHING = Thrust(Force.none())


def shown(thrust):
    return kinds_of(thrust.force) + (thrust.parts,)


def fractions_of(thrust):
    return [Fraction(number, thrust.parts) for number in kinds_of(thrust.force)]


def pair(number):
    return (number.numerator, number.denominator)


def moment_by_fractions(bridge, thrust, corner, load):
    """The moment of the push at a corner, straight from the words of the document."""
    forces = [fractions_of(thrust)]
    forces += [kinds_of(force) for force in list(bridge.own)[:corner // 2]]
    if load is not None:
        forces += [kinds_of(force) for force in list(load)[:corner // 2]]
    across, up, moment = [sum(force[k] for force in forces) for k in range(3)]
    x, y = bridge.joints[corner // 2][corner % 2]
    return Fraction(moment - x * up + y * across)


class ThrustTest(unittest.TestCase):
    def test_lowest_terms(self):
        self.assertEqual(shown(Thrust(Force(6, 9, 12), 15)), (2, 3, 4, 5))
        self.assertEqual(shown(Thrust(Force(-6, 9, -12), 15)), (-2, 3, -4, 5))
        self.assertEqual(shown(Thrust(Force(6, 9, 12))), (6, 9, 12, 1))
        self.assertEqual(shown(Thrust(Force(6, 10, 14), 5)), (6, 10, 14, 5))
        self.assertEqual(shown(Thrust(Force(6, 9, 12), 2)), (6, 9, 12, 2))
        self.assertEqual(shown(Thrust(Force(0, 0, 4), 6)), (0, 0, 2, 3))
        self.assertEqual(shown(Thrust(Force(6, 10, 7), 4)), (6, 10, 7, 4))
        self.assertEqual(shown(Thrust(Force(HUGE, -HUGE, 0), 2 * HUGE)), (1, -1, 0, 2))
        self.assertEqual(shown(Thrust(force=Force(2, 4, 6), parts=2)), (1, 2, 3, 1))

    def test_force_none(self):
        for parts in (1, 2, 12, HUGE):
            self.assertEqual(shown(Thrust(Force.none(), parts)), (0, 0, 0, 1))

    def test_bad(self):
        for thing in NO_WHOLE + (0, -1, -HUGE):
            with self.assertRaises(BadThrust):
                Thrust(Force(1, 2, 3), thing)
        for thing in NO_WHOLE + (0, 1, (1, 2, 3), U, Load.none(1)):
            with self.assertRaises(BadThrust):
                Thrust(thing)
            with self.assertRaises(BadThrust):
                Thrust(thing, 0)

    def test_sums(self):
        one, other = Thrust(Force(1, 2, 3), 2), Thrust(Force(1, -1, 5), 6)
        self.assertEqual(shown(one + other), (4, 5, 14, 6))
        self.assertEqual(shown(one - other), (2, 7, 4, 6))
        self.assertEqual(shown(-one), (-1, -2, -3, 2))
        self.assertEqual(shown(one + one), (1, 2, 3, 1))
        self.assertEqual(shown(one - one), (0, 0, 0, 1))
        self.assertEqual((shown(one), shown(other)), ((1, 2, 3, 2), (1, -1, 5, 6)))

    def test_equal(self):
        self.assertTrue(Thrust(Force(2, 4, 6), 4) == Thrust(Force(1, 2, 3), 2))
        for other in (Thrust(Force(1, 2, 3)), Thrust(Force(1, 2, 4), 2), Force(1, 2, 3), None, (Force(1, 2, 3), 2)):
            self.assertFalse(Thrust(Force(1, 2, 3), 2) == other)
            self.assertTrue(Thrust(Force(1, 2, 3), 2) != other)
        self.assertFalse(Thrust(Force(1, 2, 3)) == Force(1, 2, 3))

    def test_about(self):
        self.assertEqual(Thrust(Force(2, 3, 100), 6).about((5, 7)), (33, 2))
        self.assertEqual(Thrust(Force(2, 3, 100), 7).about([5, 7]), (99, 7))
        self.assertEqual(Thrust(Force(2, 3, -100), 7).about((0, 0)), (-100, 7))
        self.assertEqual(Thrust(Force(2, 3, 1), 7).about((5, 7)), (0, 1))


class PushTest(unittest.TestCase):
    def test_push(self):
        self.assertEqual(shown(push_at(E, U, 0)), (2, 3, 2, 2))
        self.assertEqual(shown(push_at(E, U, 1)), (2, 1, -6, 2))
        self.assertEqual(shown(push_at(E, U, 3)), (2, -3, -70, 2))
        load = Load((Force(1, 2, 3), Force(4, 5, 6), Force(7, 8, HUGE)))
        self.assertEqual(shown(push_at(E, U, 0, load)), (2, 3, 2, 2))
        self.assertEqual(shown(push_at(E, U, 3, load=load)), (26, 27, 2 * HUGE - 52, 2))

    def test_moment(self):
        self.assertEqual([moment_at(E, U, corner) for corner in range(8)],
                         [(0, 1), (2, 1), (0, 1), (2, 1), (0, 1), (2, 1), (0, 1), (2, 1)])
        for bridge in random_bridges(5, 30):
            rng = random.Random(6)
            for load in (None, random_load(rng, bridge.stones), random_load(rng, bridge.stones, HUGE)):
                thrust = random_thrust(rng)
                for corner in range(bridge.corner_count):
                    wanted = moment_by_fractions(bridge, thrust, corner, load)
                    self.assertEqual(moment_at(bridge, thrust, corner, load), pair(wanted))
                    push = push_at(bridge, thrust, corner // 2, load)
                    self.assertEqual(push.about(bridge.point(corner)), pair(wanted))

    def test_no_joint(self):
        for function in (push_at, passes, crossing):
            for thing in misses(4):
                for load in (None, Load.none(3)):
                    with self.assertRaises(NoJoint) as caught:
                        function(E, U, thing, load)
                    self.assertIs(caught.exception.joint, thing)

    def test_no_corner(self):
        for thing in misses(8):
            for load in (None, Load.none(3)):
                with self.assertRaises(NoCorner) as caught:
                    moment_at(E, U, thing, load)
                self.assertIs(caught.exception.corner, thing)

    def test_other_size_first(self):
        for stones in (1, 2, 4, 8):
            for at in (0, -1, None, "x", 99):
                for function in (push_at, passes, crossing, moment_at):
                    with self.assertRaises(OtherSize):
                        function(E, U, at, Load.none(stones))
            for function in (first_barred, touched, thrust_line):
                with self.assertRaises(OtherSize):
                    function(E, U, Load.none(stones))
                with self.assertRaises(OtherSize):
                    function(E, U, load=Load.none(stones))


class PassTest(unittest.TestCase):
    # Joint 0 stands at x = 0 from 0 to 2.
    BRIDGE = Bridge((((0, 0), (0, 2)), ((8, 0), (8, 2))))

    def check(self, force, passing, barred, touching):
        thrust = Thrust(force)
        self.assertIs(passes(self.BRIDGE, thrust, 0), passing)
        self.assertEqual(first_barred(self.BRIDGE, thrust), barred)
        self.assertEqual(touched(self.BRIDGE, thrust), touching)

    def test_through_corners(self):
        self.check(Force.acting(1, 0, (0, 0)), True, None, (0, 2))
        self.check(Force.acting(1, 0, (0, 2)), True, None, (1, 3))
        self.check(Force.acting(1, 0, (0, 1)), True, None, ())

    def test_beyond_corners(self):
        self.check(Force.acting(1, 0, (0, -1)), False, 0, ())
        self.check(Force.acting(1, 0, (0, 3)), False, 1, ())
        # A push to the left through the middle of the joint.
        self.check(Force.acting(-1, 0, (0, 1)), False, 0, ())

    def test_along_a_joint(self):
        for up in (1, -1):
            thrust = Thrust(Force.acting(0, up, (0, 0)))
            self.assertIs(passes(self.BRIDGE, thrust, 0), True)
            self.assertEqual(touched(self.BRIDGE, thrust), (0, 1))
            self.assertIs(passes(self.BRIDGE, thrust, 1), False)
        self.assertEqual(first_barred(self.BRIDGE, Thrust(Force.acting(0, 1, (0, 0)))), 3)
        self.assertEqual(first_barred(self.BRIDGE, Thrust(Force.acting(0, -1, (0, 0)))), 2)

    def test_no_push(self):
        self.check(Force.none(), True, None, (0, 1, 2, 3))

    def test_touched_where_barred(self):
        thrust = Thrust(Force.acting(8, 2, (0, 0)))
        self.assertEqual((first_barred(self.BRIDGE, thrust), touched(self.BRIDGE, thrust)), (None, (0, 3)))
        thrust = Thrust(Force.acting(8, 3, (0, 0)))
        self.assertEqual((first_barred(self.BRIDGE, thrust), touched(self.BRIDGE, thrust)), (3, (0,)))
        thrust = Thrust(Force.acting(8, -3, (0, 2)))
        self.assertEqual((first_barred(self.BRIDGE, thrust), touched(self.BRIDGE, thrust)), (2, (1,)))

    def test_against_fractions(self):
        rng = random.Random(7)
        seen = set()
        for bridge in random_bridges(8, 60):
            load = rng.choice((None, random_load(rng, bridge.stones)))
            thrust = random_thrust(rng)
            moments = [moment_by_fractions(bridge, thrust, corner, load) for corner in range(bridge.corner_count)]
            bars = [corner for corner, moment in enumerate(moments) if (moment < 0 if corner % 2 else moment > 0)]
            seen.add(tuple(bars[:1]))
            self.assertEqual(first_barred(bridge, thrust, load), bars[0] if bars else None)
            self.assertEqual(touched(bridge, thrust, load), tuple([c for c, m in enumerate(moments) if m == 0]))
            for joint in range(bridge.stones + 1):
                barred = 2 * joint in bars or 2 * joint + 1 in bars
                self.assertIs(passes(bridge, thrust, joint, load), not barred)
        self.assertGreater(len(seen), 3)


class CrossingTest(unittest.TestCase):
    BRIDGE = Bridge((((0, 0), (0, 2)), ((8, 1), (10, 5))))

    def test_places(self):
        for y, wanted in ((0, (0, 1)), (2, (1, 1)), (1, (1, 2)), (-1, (-1, 2)), (3, (3, 2))):
            for across in (1, -1, HUGE):
                self.assertEqual(crossing(self.BRIDGE, Thrust(Force.acting(across, 0, (0, y)), 3), 0), wanted)

    def test_none(self):
        # Along the joint, beside it, and no push at all.
        for force in (Force.acting(0, 1, (0, 0)), Force.acting(0, -5, (3, 0)), Force.none(), Force(0, 0, 7)):
            self.assertIsNone(crossing(self.BRIDGE, Thrust(force), 0))

    def test_line(self):
        self.assertEqual(thrust_line(self.BRIDGE, Thrust(Force.acting(1, 0, (0, 2)), 2)),
                         (((0, 1), (2, 1)), ((17, 2), (2, 1))))
        self.assertEqual(thrust_line(self.BRIDGE, Thrust(Force.acting(0, 1, (9, 0)))), (None, ((9, 1), (3, 1))))
        self.assertEqual(thrust_line(self.BRIDGE, NOTHING), (None, None))
        self.assertEqual(thrust_line(E, U), tuple([((x, 1), (y, 1)) for x, y in ((0, -1), (8, 7), (16, 7), (24, -1))]))

    def test_the_push_has_no_moment_there(self):
        rng = random.Random(9)
        for bridge in random_bridges(10, 40):
            load = rng.choice((None, random_load(rng, bridge.stones)))
            thrust = random_thrust(rng)
            for joint, point in enumerate(thrust_line(bridge, thrust, load)):
                m, k = [moment_by_fractions(bridge, thrust, 2 * joint + side, load) for side in (0, 1)]
                share = crossing(bridge, thrust, joint, load)
                if m == k:
                    self.assertIsNone(share)
                    self.assertIsNone(point)
                    continue
                self.assertEqual(share, pair(m / (m - k)))
                inner, outer = bridge.joints[joint]
                wanted = [pair(a + (b - a) * Fraction(*share)) for a, b in zip(inner, outer)]
                self.assertEqual(point, tuple(wanted))
                across, up, moment = fractions_of(push_at(bridge, thrust, joint, load))
                x, y = Fraction(*point[0]), Fraction(*point[1])
                self.assertEqual(moment - x * up + y * across, 0)


class MixedTest(unittest.TestCase):
    def test_numbers(self):
        one, other = Thrust(Force(1, 2, 3), 2), Thrust(Force(4, -5, 6), 3)
        self.assertEqual(mixed(one, other, (0, 1)), one)
        self.assertEqual(mixed(one, other, (1, 1)), other)
        self.assertEqual(mixed(one, other, (-1, 1)), one + one - other)
        self.assertEqual(mixed(one, other, (2, 1)), other + other - one)
        for share in ((1, 2), (1, 3), (5, 7), (-3, 2), (9, 4), (HUGE, HUGE + 1)):
            part = Fraction(*share)
            wanted = [a * (1 - part) + b * part for a, b in zip(fractions_of(one), fractions_of(other))]
            self.assertEqual(fractions_of(mixed(one, other, share)), wanted)

    def passing(self, bridge, load):
        """Some thrust that passes the bridge under the load, or None."""
        for corners in itertools.combinations(range(bridge.corner_count), 3):
            try:
                thrust = through(bridge, corners, load)
            except InLine:
                continue
            if first_barred(bridge, thrust, load) is None:
                return thrust
        return None

    def test_mixtures_pass(self):
        rng = random.Random(40)
        tried = 0
        for bridge in random_bridges(41, 150, 2):
            loads = (random_load(rng, bridge.stones), random_load(rng, bridge.stones))
            one, other = [self.passing(bridge, load) for load in loads]
            if one is None or other is None:
                continue
            tried += 1
            for top, bottom in ((0, 1), (1, 3), (5, 7), (1, 1)):
                # The mixture of the loads, and of the thrusts, both times the bottom of the share.
                mixture = mixed(one, other, (top, bottom))
                total = bridge.total(loads[0]) * (bottom - top) + bridge.total(loads[1]) * top
                thrust = Thrust(mixture.force * bottom, mixture.parts)
                self.assertIsNone(first_barred(bridge.with_own(total), thrust))
        self.assertGreater(tried, 3)
