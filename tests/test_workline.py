import random
import unittest

from fourhinges.carts import Cart
from fourhinges.errors import NoStone, OtherSize
from fourhinges.forces import Force
from fourhinges.loads import Load
from fourhinges.mechanisms import mechanism_on, mechanisms
from fourhinges.road import Road
from fourhinges.weights import Weights, extra_work
from fourhinges.workline import WorkLine
from tests.roads import DRAY, GIG, R, SINGLE, TURNS, VAN, random_borders, random_cart, random_road
from tests.samples import E, HUGE, WALL, arch, misses, random_bridges, random_weights

W = mechanism_on(E, (0, 3, 4, 7))


def wheel_work(bridge, weights, stone, x):
    """The work of a wheel of weight 1 on a stone, or on the ground."""
    if stone is None:
        return 0
    return extra_work(bridge, weights, Load.single(bridge.stones, stone, Force.hanging(1, x)))


def wheel_works(bridge, road, weights, x):
    return [wheel_work(bridge, weights, stone, x) for stone in road.stones_at(x)]


class WorkLineTest(unittest.TestCase):
    def check(self, bridge, road, weights):
        line = WorkLine(bridge, road, weights)
        for x in list(range(road.borders[0] - 3, road.borders[-1] + 4)) + [HUGE, -HUGE]:
            works = wheel_works(bridge, road, weights, x)
            self.assertEqual(line(x), max(works))
            self.assertEqual(line.best_stone(x), road.stones_at(x)[works.index(max(works))])
        for stone in range(bridge.stones):
            ends = tuple(wheel_work(bridge, weights, stone, x) for x in road.borders[stone:stone + 2])
            self.assertEqual(line.ends(stone), ends)
        return line

    def test_example(self):
        line = self.check(E, R, W)
        self.assertEqual([line(x) for x in (0, 4, 8, 12, 16, 20, 24)], [0, 4, 8, -8, -24, -12, 0])
        self.assertEqual([line.ends(stone) for stone in range(3)], [(0, 8), (8, -24), (-24, 0)])

    def test_each_place(self):
        rng = random.Random(230)
        for bridge in random_bridges(231, 40):
            road = random_road(rng, bridge.stones, 1)
            self.check(bridge, road, random_weights(rng, bridge))
            for mechanism in list(mechanisms(bridge))[:3]:
                self.check(bridge, road, mechanism)

    def test_great_weights_of_corners(self):
        rng = random.Random(232)
        for bridge in random_bridges(233, 10):
            road = Road(random_borders(rng, bridge.stones, 20), (SINGLE,))
            self.check(bridge, road, random_weights(rng, bridge, 10 ** 30))
        self.check(arch(8), Road(tuple(range(0, 201, 25)), (SINGLE,)), Weights((10 ** 30,) * 18))
        self.check(E, R, Weights((0,) * 8))

    def test_far_borders(self):
        self.check(E, Road((999800, 999850, 999900, 1000000), (SINGLE,)), W)

    def test_borders_where_the_stones_part(self):
        # Two stones that move unlike at their border, or a stone beside the ground: the wheel takes the better one.
        rng = random.Random(235)
        road = Road((0, 5, 12, 22), (SINGLE,))
        chosen = set()
        for _ in range(30):
            line = self.check(E, road, random_weights(rng, E))
            chosen.update((x, line.best_stone(x)) for x in road.borders)
        self.assertEqual(chosen, {(0, None), (0, 0), (5, 0), (5, 1), (12, 1), (12, 2), (22, 2), (22, None)})

    def test_equal_works(self):
        # Where all works are equal, the first place is the best.
        line = self.check(WALL, Road((0, 8), (SINGLE,)), Weights((0,) * 4))
        self.assertEqual([line.best_stone(x) for x in (-1, 0, 4, 8, 9)], [None, None, 0, 0, None])

    def test_no_stone(self):
        line = WorkLine(E, R, W)
        for stone in misses(3):
            with self.subTest(stone=stone), self.assertRaises(NoStone) as caught:
                line.ends(stone)
            self.assertEqual(caught.exception.stone, stone)

    def test_cart_work(self):
        line = WorkLine(E, R, W)
        self.assertEqual(line.cart_work(DRAY, 8, 1), 64)
        self.assertEqual((line.cart_work(VAN, 8, 1), line.cart_work(VAN, 8, -1)),
                         (2 * line(8) + 5 * line(5), 2 * line(8) + 5 * line(11)))
        self.assertEqual(line.cart_work(GIG, 25, 1), 3 * line(24))
        rng = random.Random(234)
        for _ in range(60):
            cart = random_cart(rng, "ox", 9, 10 ** 30)
            front, way = rng.randint(-9, 33), rng.choice((1, -1))
            wanted = sum(weight * line(front - way * distance) for distance, weight in cart.wheels)
            self.assertEqual(line.cart_work(cart, front, way), wanted)
        far = Cart("far", ((0, 10 ** 30), (200, 10 ** 30)), 200)
        self.assertEqual(line.cart_work(far, 208, 1), 8 * 10 ** 30)
        self.assertEqual(line.cart_work(far, HUGE, 1), 0)

    def test_linear_on_one_stone(self):
        line = WorkLine(E, Road((0, 8, 16, 24), (TURNS,)), Weights((1, 2, 3, 4, 5, 6, 7, 8)))
        for first in (1, 9, 17):
            steps = {line(x + 1) - line(x) for x in range(first, first + 6)}
            self.assertEqual(len(steps), 1)

    def test_other_size(self):
        for road, weights in ((Road((0, 8), (SINGLE,)), W), (R, Weights((0,) * 6)), (R, Weights((0,) * 10)),
                              (Road((0, 8, 9, 10, 11), (SINGLE,)), Weights((0,) * 4))):
            with self.assertRaises(OtherSize):
                WorkLine(E, road, weights)
