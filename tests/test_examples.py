"""The examples that the document prints."""

import unittest

from fourhinges.bridge import Bridge
from fourhinges.forces import Force
from fourhinges.loads import Load
from fourhinges.mechanisms import mechanism_on, mechanisms
from fourhinges.through import through
from fourhinges.thrust import Thrust, crossing, first_barred, touched
from fourhinges.weights import work


class ExamplesTest(unittest.TestCase):
    def setUp(self):
        joints = (((0, -1), (0, 1)), ((8, 7), (8, 9)), ((16, 7), (16, 9)), ((24, -1), (24, 1)))
        self.bridge = Bridge(joints, Load((Force.hanging(1, 4), Force.hanging(1, 12), Force.hanging(1, 20))))

    def test_part_1(self):
        self.assertEqual(self.bridge.point(3), (8, 9))
        self.assertTrue(self.bridge.own.before(2) == Force(0, -2, -16))
        self.assertEqual(Force.hanging(1, 4).about((8, 9)), 4)

    def test_part_2(self):
        first = through(self.bridge, (0, 3, 7))
        self.assertEqual((first.force.across, first.force.up, first.force.moment, first.parts), (6, 11, 6, 7))
        self.assertEqual(first_barred(self.bridge, first), 5)
        self.assertEqual(crossing(self.bridge, first, 2), (4, 3))
        second = Thrust(Force(2, 3, 2), 2)
        self.assertEqual((first_barred(self.bridge, second), touched(self.bridge, second)), (None, (0, 2, 4, 6)))

    def test_part_3(self):
        found = list(mechanisms(self.bridge))
        self.assertEqual((len(found), found[0].hinges, found[3].hinges, found[13].hinges),
                         (14, (0, 1, 2, 5), (0, 3, 4, 7), (3, 4, 6, 7)))
        weights = mechanism_on(self.bridge, (0, 3, 4, 7))
        self.assertEqual(weights.numbers, (1, 0, 0, 5, 7, 0, 0, 3))
        self.assertEqual(work(self.bridge, weights), -16)
        self.assertEqual(work(self.bridge, weights, Load.single(3, 0, Force.hanging(8, 4))), 16)
