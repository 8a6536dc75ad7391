import itertools
import random
import unittest

from fourhinges.bridge import Bridge
from fourhinges.carts import Cart
from fourhinges.errors import BadStage, BadYard
from fourhinges.yard import Yard, spans
from tests.roads import DRAY
from tests.samples import E, NO_WHOLE, WALL, arch, misses, random_bridge
from tests.yards import all_stages

Y = Yard(E, (0, 8, 16, 24))


def row_bridge(stones):
    return Bridge([((x, 0), (x, 1)) for x in range(stones + 1)])


def row_yard(stones, hoist=None):
    return Yard(row_bridge(stones), tuple(range(stones + 1)), hoist)


class YardTest(unittest.TestCase):
    def assert_bad(self, what, *parts):
        with self.assertRaises(BadYard) as caught:
            Yard(*parts)
        self.assertEqual(caught.exception.what, what)

    def test_attributes(self):
        yard = Yard(hoist=DRAY, borders=[0, 8, 16, 24], bridge=E)
        self.assertEqual((yard.bridge, yard.borders, yard.hoist), (E, (0, 8, 16, 24), DRAY))
        self.assertIsNone(Y.hoist)
        self.assertIsInstance(yard.borders, tuple)

    def test_later_changes(self):
        borders = [0, 8, 16, 24]
        yard = Yard(E, borders)
        borders[1] = 9
        borders.append(30)
        self.assertEqual(yard.borders, (0, 8, 16, 24))

    def test_bridge(self):
        for stones in range(1, 6):
            self.assertEqual(row_yard(stones).bridge.stones, stones)
        for bridge in (row_bridge(6), arch(8), None, 3, E.joints, E.own, Bridge):
            for borders in ((0, 1, 2, 3), range(9), None, tuple(range(7))):
                self.assert_bad("bridge", bridge, borders)
                self.assert_bad("bridge", bridge, borders, 3)

    def test_borders(self):
        for borders in ((0, 8, 16), (0, 8, 16, 24, 32), (), None, 3, "0123", range(4), {0: 1, 1: 1, 2: 1, 3: 1},
                        (0, 8, 8, 9), (0, 8, 7, 9), (9, 8, 7, 6), (0, 1, 2, 2), (0, 1, 2, 201), (0, 1, 200, 201),
                        (-1000001, 0, 1, 2), (-1000001, -1000000, -999999, -999998),
                        (999998, 999999, 1000000, 1000001)):
            self.assert_bad("borders", E, borders)
            self.assert_bad("borders", E, borders, 3)
        for wrong in NO_WHOLE:
            for at in range(4):
                borders = [0, 8, 16, 24]
                borders[at] = wrong
                self.assert_bad("borders", E, borders)

    def test_bounds_of_borders(self):
        for borders in ((0, 1, 2, 200), (0, 1, 199, 200), (-1000000, -999999, -999998, -999800),
                        (999800, 999801, 999999, 1000000), (-3, -2, -1, 0)):
            self.assertEqual(Yard(E, borders).borders, borders)

    def test_hoist(self):
        for hoist in (3, "dray", DRAY.wheels, (DRAY,), True, False, (), Cart):
            self.assert_bad("hoist", E, (0, 8, 16, 24), hoist)
        cart = Cart("hoist", ((0, 1), (200, 1)), 200)
        self.assertEqual(Yard(E, (0, 8, 16, 24), cart).hoist, cart)
        self.assertIsNone(Yard(E, (0, 8, 16, 24), None).hoist)


def check_bad_stages(test, call):
    """What is no stage of a yard of three stones."""
    frames = ()
    bad = [None, 3, "abc", (), (0, 0), (0, 0, (), ()), {0: 0, 1: 0, 2: ()}, [0], (0, 0, None), (0, 0, 1), (0, 0, "0"),
           (0, 0, {0}), (0, 0, range(1)), (0, 0, (0, 0)), (0, 0, (1, 0)), (0, 0, (0, 2, 1)), (0, 0, (0, 1, 2, 3)),
           (0, 0, (3,)), (0, 0, (-1,)), (3, 1, frames), (0, 3, frames), (1, 2, frames), (2, 1, frames),
           (2, 2, frames), (3, 3, frames), (4, 0, frames), (-1, 0, frames), (0, -1, frames), (4, -1, frames),
           (0, 4, frames), (5, 0, ())]
    for wrong in NO_WHOLE:
        bad.extend([(wrong, 0, ()), (0, wrong, ()), (0, 0, (wrong,)), (0, 0, [0, wrong])])
    for wrong in misses(3):
        bad.append((1, 1, (wrong,)))
    for stage in bad:
        with test.subTest(stage=stage), test.assertRaises(BadStage):
            call(stage)


class SpansTest(unittest.TestCase):
    def second(self, stones, stage):
        """By looking at each pair of stones."""
        left, right, frames = stage
        laid = [stone < left or stone >= stones - right for stone in range(stones)]
        loose = [laid[stone] and stone not in frames for stone in range(stones)]
        found = []
        for first, last in itertools.combinations_with_replacement(range(stones), 2):
            is_run = all(loose[first:last + 1])
            before, after = first - 1, last + 1
            if is_run and not (before >= 0 and loose[before]) and not (after < stones and loose[after]):
                left_firm = before < 0 or (laid[before] and before in frames)
                right_firm = after >= stones or (laid[after] and after in frames)
                found.append((first, last, left_firm, right_firm))
        return tuple(sorted(found))

    def test_every_stage(self):
        for stones in range(1, 6):
            yard = row_yard(stones)
            for stage in all_stages(stones):
                found = spans(yard, stage)
                self.assertEqual(found, self.second(stones, stage))
                self.assertTrue(all(left or right for _, _, left, right in found))
                self.assertIsInstance(found, tuple)
                for span in found:
                    self.assertIsInstance(span, tuple)
                    self.assertEqual([type(part) for part in span], [int, int, bool, bool])

    def test_examples(self):
        self.assertEqual(spans(Y, (2, 0, (0,))), ((1, 1, True, False),))
        self.assertEqual(spans(Y, (0, 0, ())), ())
        self.assertEqual(spans(Y, (0, 0, (0, 1, 2))), ())
        self.assertEqual(spans(Y, (3, 0, ())), ((0, 2, True, True),))
        self.assertEqual(spans(Y, (3, 0, (1,))), ((0, 0, True, True), (2, 2, True, True)))
        self.assertEqual(spans(Y, (1, 1, (1,))), ((0, 0, True, False), (2, 2, False, True)))

    def test_lists(self):
        self.assertEqual(spans(Y, [2, 0, [0]]), ((1, 1, True, False),))

    def test_random_bridges(self):
        # Where the stones lie does not matter.
        rng = random.Random(380)
        for _ in range(10):
            bridge = random_bridge(rng, rng.randint(1, 5))
            yard = Yard(bridge, tuple(range(bridge.stones + 1)))
            for stage in all_stages(bridge.stones)[::7]:
                self.assertEqual(spans(yard, stage), self.second(bridge.stones, stage))

    def test_bad_stage(self):
        check_bad_stages(self, lambda stage: spans(Y, stage))
        with self.assertRaises(BadStage):
            spans(Yard(WALL, (0, 1)), (0, 1, ()))
