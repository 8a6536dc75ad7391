import random
import unittest

from fourhinges.cords import cord_barred
from fourhinges.errors import OtherSize
from fourhinges.forces import Force
from fourhinges.loads import Load
from fourhinges.thrust import Thrust, first_barred
from tests.samples import E, WALL, random_bridges, random_load, random_thrust


class CordTest(unittest.TestCase):
    def test_one_stone(self):
        for force, wanted in ((Force.acting(-1, 0, (0, 0)), None), (Force.acting(-1, 0, (0, 2)), None),
                              (Force.acting(-1, 0, (0, 1)), None), (Force.none(), None),
                              (Force.acting(-1, 0, (0, 3)), 1), (Force.acting(-1, 0, (0, -1)), 0),
                              (Force.acting(1, 0, (0, 1)), 0), (Force.acting(1, 0, (0, 0)), 1),
                              (Force.acting(-8, -3, (0, 0)), 3), (Force.acting(-8, 3, (0, 2)), 2)):
            self.assertEqual(cord_barred(WALL, Thrust(force, 3)), wanted)

    def test_exchanged_and_turned(self):
        rng = random.Random(13)
        hanging = 0
        for bridge in random_bridges(14, 300, 3):
            load = rng.choice((None, random_load(rng, bridge.stones)))
            pull = rng.choice((random_thrust(rng), Thrust(Force.none())))
            hangs = cord_barred(bridge, pull, load) is None
            hanging += hangs
            self.assertEqual(hangs, first_barred(bridge.exchanged(), pull, load) is None)
            turned = bridge.with_own(-bridge.own)
            # The corners of the turned bridge are those of the bridge itself.
            self.assertEqual(cord_barred(bridge, pull, load),
                             first_barred(turned, -pull, None if load is None else -load))
        self.assertGreater(hanging, 3)

    def test_least_corner(self):
        self.assertEqual(cord_barred(E, Thrust(Force(2, 3, 2), 2)), 1)
        self.assertEqual(cord_barred(E, Thrust(Force(-2, -3, -2), 2), load=E.own * -2), None)

    def test_other_size(self):
        with self.assertRaises(OtherSize):
            cord_barred(E, Thrust(Force.none()), Load.none(4))
