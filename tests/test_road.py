import itertools
import random
import unittest

from fourhinges.carts import Cart
from fourhinges.errors import BadCart, BadRoad, NoLane
from fourhinges.road import Road, rows_up_to
from fourhinges.rules import Rule, row_fault
from tests.roads import DRAY, R, SINGLE, TURNS, random_road, second_rows
from tests.samples import HUGE, NO_WHOLE, misses

BORDERS = (0, 8, 16, 24)


class RoadTest(unittest.TestCase):
    def refused(self, what, borders, rules):
        with self.subTest(borders=borders, rules=rules), self.assertRaises(BadRoad) as caught:
            Road(borders, rules)
        self.assertEqual(caught.exception.what, what)

    def test_attributes(self):
        road = Road([0, 8, 16, 24], [SINGLE, TURNS])
        self.assertEqual((road.borders, road.rules, road.stones), (BORDERS, (SINGLE, TURNS), 3))
        self.assertIsInstance(road.borders, tuple)
        self.assertIsInstance(road.rules, tuple)
        self.assertEqual(Road(rules=(SINGLE,), borders=BORDERS), R)
        for count in range(2, 10):
            self.assertEqual(Road(range_tuple(count), (SINGLE,)).stones, count - 1)

    def test_borders(self):
        for borders in ((), (0,), [0], range_tuple(10), None, 5, "abc", {0: 1, 1: 2}, range(3)):
            self.refused("borders", borders, None)

    def test_border(self):
        for border in (1000001, -1000001, HUGE) + NO_WHOLE:
            self.refused("border", (border, 1000000), None)
            self.refused("border", (-5, 0, border), None)
        for borders in ((0, 0), (1, 0), (0, 5, 5), (0, 5, 4, 9), (0, 0, None)):
            self.refused("border", borders, None)

    def test_long(self):
        self.assertEqual(Road((-100, 100), (SINGLE,)).borders, (-100, 100))
        self.assertEqual(Road((999800, 999801, 1000000), (SINGLE,)).stones, 2)
        self.assertEqual(Road((-1000000, -999800), (SINGLE,)).stones, 1)
        for borders in ((0, 201), (-100, 0, 101), (-1000000, 1000000)):
            self.refused("long", borders, None)

    def test_rules(self):
        for rules in ((), [], (SINGLE,) * 3, [None] * 3, None, SINGLE, 5, "ab", {0: SINGLE}):
            self.refused("rules", BORDERS, rules)
        for rules in ((None,), (SINGLE, None), ["ab", SINGLE], [DRAY], [(SINGLE,)]):
            self.refused("rule", BORDERS, rules)

    def test_later_changes(self):
        borders, rules = list(BORDERS), [SINGLE]
        road = Road(borders, rules)
        borders[0] = -5
        rules.append(TURNS)
        self.assertEqual(road, R)

    def test_names(self):
        self.assertEqual(R.names, ("dray",))
        other = Rule((DRAY, Cart("van", ((0, 1),), 9)), ())
        self.assertEqual(Road(BORDERS, (TURNS, other)).names, ("van", "gig", "dray"))
        self.assertEqual(Road(BORDERS, (other, TURNS)).names, ("dray", "van", "gig"))
        self.assertIsInstance(R.names, tuple)

    def test_rule(self):
        road = Road(BORDERS, (SINGLE, TURNS))
        self.assertEqual((road.rule(0), road.rule(1)), (SINGLE, TURNS))
        for lane in misses(2):
            with self.subTest(lane=lane), self.assertRaises(NoLane) as caught:
                road.rule(lane)
            self.assertEqual(caught.exception.lane, lane)
        with self.assertRaises(NoLane):
            R.rule(1)

    def test_changed_rules(self):
        road = Road(BORDERS, (SINGLE, TURNS.turned()))
        self.assertEqual(road.only(("van", "dray")), Road(BORDERS, (SINGLE, TURNS.turned().only(("van",)))))
        self.assertEqual(road.only([]), Road(BORDERS, (SINGLE.only(()), TURNS.turned().only(()))))
        self.assertEqual(road.weighted(3), Road(BORDERS, (SINGLE.weighted(3), TURNS.turned().weighted(3))))
        self.assertEqual(road.spaced(3), Road(BORDERS, (SINGLE.spaced(3), TURNS.turned().spaced(3))))
        self.assertEqual(road.spaced(0), road)
        self.assertEqual(road.only(road.names), road)

    def test_scaled(self):
        road = Road((-1, 8, 16), (SINGLE, TURNS))
        self.assertEqual(road.scaled(3), Road((-3, 24, 48), (SINGLE.scaled(3), TURNS.scaled(3))))
        self.assertEqual(road.scaled(1), road)

    def test_mirrored(self):
        road = Road((-1, 8, 16), (SINGLE, TURNS.turned()))
        self.assertEqual(road.mirrored(), Road((-16, -8, 1), (SINGLE.turned(), TURNS)))
        self.assertEqual(road.mirrored().mirrored(), road)

    def test_results_outside_the_bounds(self):
        with self.assertRaises(BadRoad) as caught:
            R.scaled(9)
        self.assertEqual(caught.exception.what, "long")
        with self.assertRaises(BadRoad) as caught:
            Road((999900, 1000000), (SINGLE,)).scaled(2)
        self.assertEqual(caught.exception.what, "border")
        # The carts of the second lane are made before the road.
        with self.assertRaises(BadCart) as caught:
            Road((0, 8), (SINGLE, TURNS)).scaled(51)
        self.assertEqual(caught.exception.what, "length")
        with self.assertRaises(BadCart) as caught:
            Road((0, 8), (SINGLE, TURNS)).weighted(10 ** 30)
        self.assertEqual(caught.exception.what, "wheel")

    def test_stones_at(self):
        road = Road((-2, 1, 2, 5), (SINGLE,))
        wanted = {-HUGE: (None,), -4: (None,), -3: (None,), -2: (None, 0), -1: (0,), 0: (0,), 1: (0, 1), 2: (1, 2),
                  3: (2,), 4: (2,), 5: (2, None), 6: (None,), 7: (None,), HUGE: (None,)}
        self.assertEqual({x: road.stones_at(x) for x in wanted}, wanted)
        self.assertEqual([Road((0, 1), (SINGLE,)).stones_at(x) for x in range(-1, 3)],
                         [(None,), (None, 0), (0, None), (None,)])
        self.assertEqual(R.stones_at(8), (0, 1))

    def test_equality(self):
        self.assertTrue(Road([0, 8, 16, 24], [SINGLE]) == R)
        self.assertFalse(Road([0, 8, 16, 24], [SINGLE]) != R)
        for other in (Road((0, 8, 16, 25), (SINGLE,)), Road(BORDERS, (SINGLE, SINGLE)), R.spaced(1), Road((0, 8), (SINGLE,)),
                      BORDERS, None, SINGLE):
            self.assertFalse(R == other)
            self.assertTrue(R != other)


def range_tuple(count):
    return tuple(range(count))


class RowsUpToTest(unittest.TestCase):
    def test_random(self):
        rng = random.Random(210)
        counts = []
        for _ in range(40):
            road = random_road(rng, rng.randint(1, 2), rng.randint(1, 2), 2, rooms=rng.randint(1, 3), longest=2)
            lane = rng.randrange(len(road.rules))
            for most in range(3):
                found = list(rows_up_to(road, lane, most))
                self.assertEqual(found, second_rows(road, lane, most))
                self.assertEqual(len(set(found)), len(found))
                self.assertTrue(all(row_fault(road.rule(lane), row) is None for row in found))
                counts.append(len(found))
        self.assertGreater(max(counts), 50)

    def test_order(self):
        gig = Cart("gig", ((0, 3),), 0)
        rule = Rule((gig, Cart("ox", ((0, 1),), 1)), ((0, "ox", 1, 0), (0, "gig", 1, 1)))
        for way in (1, -1):
            road = Road((0, 1), (rule if way == 1 else rule.turned(),))
            # The low end is 0 or -1, and the longest cart is 1 long.
            low, top = (0, 2) if way == 1 else (-1, 1)
            rows = [(0, ())]
            rows += [(0, (("gig", way * place),)) for place in (top, top - 1, low)]
            rows += [(0, (("ox", way * top),)), (0, (("ox", way * top), ("gig", way * low))),
                     (0, (("ox", way * top), ("ox", way * low)))]
            rows += [(0, (("ox", way * place),)) for place in (top - 1, low)]
            rows += [(1, ())]
            self.assertEqual(list(rows_up_to(road, 0, 2)), rows)
            self.assertEqual(list(rows_up_to(road, 0, 20)), rows)
            self.assertEqual(list(rows_up_to(road, 0, 0)), [(0, ()), (1, ())])

    def test_many_carts(self):
        rule = Rule((Cart("gig", ((0, 1),), 0),), ((0, "gig", 1, 0),))
        found = list(rows_up_to(Road((0, 4), (rule,)), 0, 20))
        self.assertEqual(len(found), 2 ** 5)
        self.assertEqual(max(len(carts) for _, carts in found), 5)
        first = list(itertools.islice(rows_up_to(Road((0, 199), (rule,)), 0, 20), 21))[-1]
        self.assertEqual(first, (0, tuple(("gig", 199 - at) for at in range(20))))

    def test_great_gaps(self):
        found = list(rows_up_to(R.spaced(HUGE), 0, 5))
        self.assertEqual(found, [(0, ())] + [(0, (("dray", place),)) for place in range(24, -1, -1)])

    def test_no_steps(self):
        self.assertEqual(list(rows_up_to(Road((0, 8), (SINGLE, TURNS.only(()))), 1, 3)), [(0, ())])

    def test_no_lane(self):
        for lane in misses(1):
            with self.subTest(lane=lane), self.assertRaises(NoLane) as caught:
                next(iter(rows_up_to(R, lane, 2)))
            self.assertEqual(caught.exception.lane, lane)

    def test_nothing_is_left_out(self):
        fronts = {row[1][0][1] for row in rows_up_to(Road((0, 3), (TURNS.turned(),)), 0, 1) if row[1]}
        # To the left the progress goes from -3 to 0 + 4.
        self.assertEqual(fronts, set(range(-4, 4)))
