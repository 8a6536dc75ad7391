import itertools
import random
import unittest

from fourhinges.bridge import Bridge
from fourhinges.errors import BadCorners, InLine, OtherSize
from fourhinges.forces import Force
from fourhinges.loads import Load
from fourhinges.thrust import moment_at, touched
from fourhinges.through import through
from tests.samples import E, F, HUGE, misses, random_bridges, random_load
from tests.test_thrust import shown


def in_line(points):
    (a, b), (c, d), (e, f) = points
    return (c - a) * (f - b) == (e - a) * (d - b)


class ThroughTest(unittest.TestCase):
    def test_example(self):
        self.assertEqual(shown(through(E, (0, 3, 7))), (6, 11, 6, 7))

    def test_touches_in_any_order(self):
        for corners in itertools.combinations(range(8), 3):
            if in_line([E.point(corner) for corner in corners]):
                continue
            thrust = through(E, corners)
            self.assertLessEqual(set(corners), set(touched(E, thrust)))
            for order in itertools.permutations(corners):
                self.assertEqual(through(E, list(order)), thrust)

    def test_random(self):
        rng = random.Random(11)
        tried = 0
        for bridge in random_bridges(12, 60):
            load = rng.choice((None, random_load(rng, bridge.stones, HUGE)))
            corners = rng.sample(range(bridge.corner_count), 3)
            if in_line([bridge.point(corner) for corner in corners]):
                with self.assertRaises(InLine) as caught:
                    through(bridge, corners, load)
                self.assertEqual(caught.exception.corners, tuple(corners))
            else:
                thrust = through(bridge, corners, load)
                tried += 1
                for corner in corners:
                    self.assertEqual(moment_at(bridge, thrust, corner, load), (0, 1))
        self.assertGreater(tried, 30)

    def test_load_by_keyword(self):
        load = Load.single(3, 0, Force.hanging(8, 4))
        self.assertEqual(through(E, (0, 3, 7), load=load), through(E.with_own(E.own + load), (0, 3, 7)))
        self.assertNotEqual(through(E, (0, 3, 7), load=load), through(E, (0, 3, 7)))

    def test_bad_corners(self):
        wrong = [None, 3, "037", (), (0,), (0, 3), (0, 3, 7, 5), (0, 3, 3), (0, 0, 0), {0: 1, 3: 1, 7: 1},
                 iter((0, 3, 7)), {0, 3, 7}]
        for thing in misses(8):
            wrong += [(thing, 3, 7), [0, thing, 7], (0, 3, thing)]
        for thing in wrong:
            with self.assertRaises(BadCorners):
                through(E, thing)

    def test_bad_corners_before_in_line(self):
        for thing in ((0, 1, 1), (0, 1, 4), (2, 0, 2, 1)):
            with self.assertRaises(BadCorners):
                through(F, thing)

    def test_in_line(self):
        # The four corners of F lie in one line.
        for corners in ((0, 1, 2), (3, 1, 0), [2, 3, 0]):
            with self.assertRaises(InLine) as caught:
                through(F, corners)
            self.assertEqual(caught.exception.corners, tuple(corners))
            self.assertIs(type(caught.exception.corners), tuple)

    def test_equal_points(self):
        bridge = Bridge((((0, 0), (0, 2)), ((0, 2), (5, 7))))
        for corners in ((1, 2, 3), (3, 1, 2), (2, 0, 1)):
            with self.assertRaises(InLine) as caught:
                through(bridge, corners)
            self.assertEqual(caught.exception.corners, corners)
        self.assertEqual(touched(bridge, through(bridge, (0, 1, 3)))[:2], (0, 1))

    def test_other_size_first(self):
        for thing in (None, (0, 3, 7), (0, 0, 0), (0, 3, "x")):
            with self.assertRaises(OtherSize):
                through(E, thing, Load.none(2))
