import functools
import random
import unittest

from fourhinges.carts import Cart
from fourhinges.errors import NoLane, OtherSize
from fourhinges.heaviest import Heaviest, heaviest, potentials, potentials_fault, table_most
from fourhinges.mechanisms import mechanism_on, mechanisms
from fourhinges.road import Road, rows_up_to
from fourhinges.rules import Rule, row_fault
from fourhinges.scenes import Scene, scene_fault, scene_load
from fourhinges.weights import Weights, extra_work
from tests.roads import GIG, R, SINGLE, TURNS, random_borders, random_road, random_rule, second_reachable, wheels_of
from tests.samples import E, HUGE, arch, misses, random_bridges, random_weights
from tests.test_workline import wheel_works

W = mechanism_on(E, (0, 3, 4, 7))


def cart_most(bridge, road, rule, weights, name, front):
    """The most that a cart works, with its wheels on the best stones."""
    return sum(weight * max(wheel_works(bridge, road, weights, x)) for x, weight in wheels_of(rule, name, front))


def lane_places(road, lane):
    """All progress at which a front may have a wheel on the bridge."""
    rule = road.rules[lane]
    ends = sorted(rule.way * border for border in (road.borders[0], road.borders[-1]))
    return range(ends[0], ends[1] + max(cart.length for cart in rule.carts) + 1)


def second_table(bridge, road, lane, weights):
    """The table of potentials, by its own recursion."""
    rule = road.rules[lane]
    places = lane_places(road, lane)
    lengths = {cart.name: cart.length for cart in rule.carts}
    most = functools.cache(lambda name, place: cart_most(bridge, road, rule, weights, name, rule.way * place))

    @functools.cache
    def potential(room, place):
        if place < places[0]:
            return 0
        return max([0, potential(room, place - 1)] + [
            most(name, place) + potential(after, max(place - lengths[name] - gap, places[0] - 1))
            for at, name, gap, after in rule.steps if at == room])

    return tuple((room, place, potential(room, place)) for room in second_reachable(rule) for place in places)


class HeaviestTest(unittest.TestCase):
    def check(self, bridge, road, lane, weights):
        """The answer is a row with this amount, and the amount is that of the second table."""
        answer = heaviest(bridge, road, lane, weights)
        self.assertIsInstance(answer, Heaviest)
        self.check_row(bridge, road, lane, weights, answer)
        table = second_table(bridge, road, lane, weights)
        self.assertEqual(answer.amount, max(number for _, _, number in table))
        found = potentials(bridge, road, lane, weights)
        self.assertEqual(found, table)
        self.assertEqual(table_most(found), answer.amount)
        self.assertIsNone(potentials_fault(bridge, road, lane, weights, found))
        return answer

    def check_row(self, bridge, road, lane, weights, answer):
        for thing in (answer.row, answer.row[1], answer.stones) + answer.row[1] + answer.stones:
            self.assertIsInstance(thing, tuple)
        rule = road.rule(lane)
        self.assertIsNone(row_fault(rule, answer.row))
        alone = Road(road.borders, (rule,))
        scene = Scene((answer.row,), (answer.stones,))
        self.assertEqual((scene.rows, scene.stones), ((answer.row,), (answer.stones,)))
        self.assertIsNone(scene_fault(alone, scene))
        self.assertEqual(extra_work(bridge, weights, scene_load(alone, scene)), answer.amount)

    def check_all_rows(self, bridge, road, lane, weights):
        rule = road.rules[lane]
        answer = self.check(bridge, road, lane, weights)
        works = [(room, carts, sum(cart_most(bridge, road, rule, weights, name, front) for name, front in carts))
                 for room, carts in rows_up_to(road, lane, 20)]
        self.assertEqual(answer.amount, max(work for _, _, work in works))
        for room, place, number in potentials(bridge, road, lane, weights):
            self.assertEqual(number, max(work for at, carts, work in works
                                         if at == room and (not carts or rule.way * carts[0][1] <= place)))
        return answer

    def test_example(self):
        answer = self.check(E, R, 0, W)
        self.assertEqual((answer.amount, answer.row), (64, (0, (("dray", 8),))))

    def test_all_rows_of_small_roads(self):
        rng = random.Random(240)
        counts = []
        for bridge in random_bridges(241, 60, 3):
            road = random_road(rng, bridge.stones, rng.randint(1, 2), 2, rooms=rng.randint(1, 3), longest=1)
            answer = self.check_all_rows(bridge, road, rng.randrange(len(road.rules)), random_weights(rng, bridge))
            counts.append(len(answer.row[1]))
        self.assertGreater(len(set(counts)), 3)

    def test_mechanisms(self):
        rng = random.Random(242)
        for bridge in [E] + random_bridges(243, 20, 3):
            road = Road(random_borders(rng, bridge.stones, 9), [random_rule(rng, rooms=3), TURNS])
            for mechanism in list(mechanisms(bridge))[:3]:
                for lane in (0, 1):
                    self.check(bridge, road, lane, mechanism)

    def test_long_roads(self):
        rng = random.Random(244)
        for stones in (3, 8):
            bridge = arch(stones)
            names = ("ox", "cob", "nag", "van")
            rules = [random_rule(rng, names, 4, 50, 9, 10 ** 30) for _ in range(2)]
            road = Road(tuple(range(0, 12 * stones + 1, 12)), rules)
            for mechanism in list(mechanisms(bridge))[::40]:
                for lane in (0, 1):
                    self.check(bridge, road, lane, mechanism)

    def test_weights_of_0(self):
        answer = self.check(E, R, 0, Weights((0,) * 8))
        self.assertEqual((answer.amount, answer.row[1], answer.stones), (0, (), ()))
        self.check_all_rows(E, Road((0, 1, 2, 3), (TURNS,)), 0, Weights((0,) * 8))

    def test_no_steps(self):
        answer = self.check(E, R.only(()), 0, W)
        self.assertEqual((answer.amount, answer.row, answer.stones), (0, (0, ()), ()))

    def test_an_amount_of_1(self):
        # Under this weight a wheel of weight 1 works 24 - x.
        light = Rule((Cart("gig", ((0, 1),), 0),), ((0, "gig", 9, 0),))
        answer = self.check(E, Road((23, 24, 25, 26), (light,)), 0, Weights((0, 0, 0, 0, 0, 0, 1, 0)))
        self.assertEqual((answer.amount, answer.row, answer.stones), (1, (0, (("gig", 23),)), ((0,),)))

    def test_a_row_that_must_begin_in_another_room(self):
        # The van works only below 0 here, so the row begins with gigs behind it.
        light = Weights((0, 0, 0, 0, 0, 0, 0, 1))
        heavy = Weights((0, 0, 0, 0, 0, 0, 1, 0))
        for weights in (light, heavy):
            for road in (Road((0, 1, 2, 3), (TURNS,)), Road((0, 1, 2, 3), (TURNS.turned(),))):
                self.check_all_rows(E, road, 0, weights)

    def test_the_longest_cart_alone_behind_the_bridge(self):
        # The last wheel of the long cart works best, at the last border: the front is far beyond it.
        long = Cart("long", ((0, 1), (50, 3)), 50)
        for way in (1, -1):
            rule = Rule((GIG, long), ((0, "long", 1, 0), (0, "gig", 4, 0)), way)
            for weights in (W, Weights((3, 0, 0, 1, 1, 0, 0, 2)), Weights((0, 2, 1, 0, 0, 5, 1, 0))):
                self.check(E, Road((0, 8, 16, 24), (rule,)), 0, weights)

    def test_great_numbers(self):
        rng = random.Random(245)
        road = Road((0, 8, 16, 24), (TURNS.weighted(10 ** 29), SINGLE.spaced(10 ** 30)))
        for weights in (W * 10 ** 30, random_weights(rng, E, 10 ** 30)):
            self.check(E, road, 0, weights)
            answer = self.check(E, road, 1, weights)
            self.assertLessEqual(len(answer.row[1]), 1)
        self.assertEqual(heaviest(E, R.weighted(10 ** 28), 0, W).amount, 64 * 10 ** 28)

    def test_scaled_bridges_under_scaled_roads(self):
        rng = random.Random(246)
        for bridge in random_bridges(247, 10, 3):
            road = random_road(rng, bridge.stones, 1)
            weights = random_weights(rng, bridge)
            self.assertEqual(heaviest(bridge.scaled(3), road.scaled(3), 0, weights).amount,
                             3 * heaviest(bridge, road, 0, weights).amount)

    def test_errors(self):
        calls = (heaviest, potentials, lambda *parts: potentials_fault(*parts, ()))
        for call in calls:
            for lane in misses(1):
                with self.subTest(lane=lane), self.assertRaises(NoLane) as caught:
                    call(E, R, lane, W)
                self.assertEqual(caught.exception.lane, lane)
                for road, weights in ((Road((0, 8), (SINGLE,)), W), (R, Weights((0,) * 6))):
                    with self.assertRaises(OtherSize):
                        call(E, road, lane, weights)

    def test_result_keeps_its_arguments(self):
        answer = Heaviest(stones=((0,),), row=(0, (("dray", 8),)), amount=64)
        self.assertEqual((answer.amount, answer.row, answer.stones), (64, (0, (("dray", 8),)), ((0,),)))
        self.assertEqual(Heaviest(1, 2, 3).stones, 3)


class PotentialsFaultTest(unittest.TestCase):
    road = Road((0, 3, 5, 9), (TURNS, TURNS.turned()))

    def judged(self, table, lane=0):
        return potentials_fault(E, self.road, lane, W, table)

    def changed(self, table, at, number):
        room, progress, _ = table[at]
        return table[:at] + ((room, progress, number),) + table[at + 1:]

    def test_places_of_the_table(self):
        for lane in (0, 1):
            places = [(room, place) for room in (0, 1, 3) for place in lane_places(self.road, lane)]
            self.assertEqual([triple[:2] for triple in potentials(E, self.road, lane, W)], places)
        self.assertEqual(lane_places(self.road, 1), range(-9, 5))

    def test_right(self):
        for lane in (0, 1):
            self.assertIsNone(self.judged(potentials(E, self.road, lane, W), lane))

    def test_greater_numbers(self):
        table = potentials(E, self.road, 0, W)
        for more in (1, HUGE):
            self.assertIsNone(self.judged(tuple((room, place, number + more) for room, place, number in table)))
        # No step leads to the last place of a room.
        self.assertIsNone(self.judged(self.changed(table, len(table) - 1, HUGE)))

    def test_places(self):
        table = potentials(E, self.road, 0, W)
        for wrong in ((), table[1:], table[:-1], table[::-1], table + table, table + table[-1:],
                      ((0, -1, 0),) + table, ((2, 0, 0),) + table[1:], table[1:2] + table[:1] + table[2:],
                      tuple((room, place + 1, number) for room, place, number in table),
                      table[:-1] + ((3, table[-1][1] + 1, table[-1][2]),), potentials(E, self.road, 1, W)):
            self.assertEqual(self.judged(wrong), "places")

    def test_each_word(self):
        table = potentials(E, self.road, 0, W)
        words = set()
        for at, (room, place, number) in enumerate(table):
            self.assertEqual(self.judged(self.changed(table, at, -1)), "below")
            if number > 0:
                is_rising = place == 0 or table[at - 1][2] < number
                word = self.judged(self.changed(table, at, number - 1))
                self.assertEqual(word, "step" if is_rising else "order")
                words.add(word)
        self.assertEqual(words, {"step", "order"})

    def test_order_where_no_step_asks_for_it(self):
        table = potentials(E, self.road, 0, W)
        # Room 3 has no step: its numbers are 0, and greater ones may only rise.
        places = [at for at, triple in enumerate(table) if triple[0] == 3]
        self.assertTrue(all(table[at][2] == 0 for at in places))
        self.assertEqual(self.judged(self.changed(table, places[3], 5)), "order")
        raised = table[:places[0]] + tuple((3, place, 10 ** 9 * place) for _, place, _ in table[places[0]:])
        # But rooms that lead to room 3 must then be greater, too.
        self.assertEqual(self.judged(raised), "step")

    def test_the_first_place_has_no_order(self):
        zero = [triple for triple in potentials(E, self.road, 0, Weights((0,) * 8))]
        self.assertIsNone(potentials_fault(E, self.road, 0, Weights((0,) * 8), tuple(zero)))
        zero[1] = (0, 1, 7)
        self.assertEqual(potentials_fault(E, self.road, 0, Weights((0,) * 8), tuple(zero)), "order")

    def test_triple_by_triple(self):
        table = potentials(E, self.road, 0, W)
        steps = [at for at, (_, place, number) in enumerate(table) if number > 0 and table[at - 1][2] < number]
        wrong = self.changed(table, steps[0], table[steps[0]][2] - 1)
        # A later number below 0 does not hide the earlier word, and an earlier one comes first.
        self.assertEqual(self.judged(self.changed(wrong, len(table) - 1, -1)), "step")
        self.assertEqual(self.judged(self.changed(wrong, 0, -1)), "below")
        # All three words for one number.
        high = tuple((room, place, number + 5) for room, place, number in table)
        self.assertEqual(self.judged(self.changed(high, steps[0], -1)), "below")
        self.assertEqual(self.judged(self.changed(high, steps[0], 0)), "order")

    def test_numbers_are_never_too_small(self):
        rng = random.Random(248)
        found = 0
        for bridge in random_bridges(249, 60, 2):
            road = random_road(rng, bridge.stones, 1, 2)
            weights = random_weights(rng, bridge)
            right = potentials(bridge, road, 0, weights)
            table = tuple((room, place, max(0, number + rng.choice((-1, 0, 0, 0, 1)))) for room, place, number in right)
            if potentials_fault(bridge, road, 0, weights, table) is None:
                found += 1
                self.assertTrue(all(one[2] >= other[2] for one, other in zip(table, right)))
        self.assertGreater(found, 5)

    def test_table_most(self):
        self.assertEqual(table_most(()), 0)
        self.assertEqual(table_most(((0, 0, 3), (0, 1, 7), (1, 0, 5))), 7)
        self.assertEqual(table_most(((0, 0, -3), (0, 1, -7))), -3)
        self.assertEqual(table_most(potentials(E, R, 0, W)), 64)
