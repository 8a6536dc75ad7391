import itertools
import random
import unittest

from fourhinges.bridge import Bridge
from fourhinges.carts import Cart
from fourhinges.errors import NotStanding, OtherSize
from fourhinges.forces import Force
from fourhinges.heaviest import potentials_fault, table_most
from fourhinges.loads import Load
from fourhinges.mechanisms import mechanisms
from fourhinges.ratios import compare_ratios
from fourhinges.road import Road, rows_up_to
from fourhinges.rules import Rule
from fourhinges.scenes import Scene, scene_fault, scene_load
from fourhinges.stands import bears, stands
from fourhinges.traffic import Safe, Unsafe, factor, is_safe, least_extra_gap, permits, verdict
from fourhinges.trafficjudge import verdict_fault
from fourhinges.weights import work
from tests.crowds import all_scenes, scenes_of_few, second_is_safe, some_scenes, sums, tiny_pair, tiny_pairs
from tests.roads import DRAY, R, SINGLE, TURNS, random_rule
from tests.samples import E, F, WALL, arch, random_bridge
from tests.seconds import is_borne

QUIET = R.only(())
# Lighter drays that E bears alone, and longer and longer gaps.
LIGHT = Rule((Cart("dray", ((0, 1),), 0),), ((0, "dray", 1, 0),))
THIN = Rule((Cart("gig", ((0, 1),), 2), Cart("van", ((0, 3), (4, 3)), 4)), ((0, "gig", 1, 0), (0, "van", 2, 0)))


GIGS = Rule((Cart("gig", ((0, 1),), 0),), ((0, "gig", 1, 0),))


def pivot(x, weight):
    """One stone with one mechanism: it turns about x, where a weight at 0 works weight * (0 - x)."""
    return Bridge((((x, 0), (x + 4, 5)), ((x + 4, -5), (x, 0))), Load((Force.hanging(weight, 0),)))


def heavy(times):
    return E.with_own(E.own * times)


class VerdictTest(unittest.TestCase):
    def check(self, bridge, road):
        """The answer is right by a search over all rows of a tiny road."""
        answer = verdict(bridge, road)
        wanted = [pair for pair in sums(bridge, road) if pair[1] > 0]
        self.assertIs(is_safe(bridge, road), not wanted)
        if wanted:
            self.check_unsafe(bridge, road, answer)
            self.assertEqual((answer.mechanism, answer.work), wanted[0])
        else:
            self.check_safe(bridge, road, answer)
        self.assertIsNone(verdict_fault(bridge, road, answer))
        return not wanted

    def check_unsafe(self, bridge, road, answer):
        self.assertIsInstance(answer, Unsafe)
        self.assertIsInstance(answer.scene, Scene)
        self.assertIsNone(scene_fault(road, answer.scene))
        load = scene_load(road, answer.scene)
        self.assertEqual(work(bridge, answer.mechanism, load), answer.work)
        self.assertGreater(answer.work, 0)
        self.assertFalse(bears(bridge, load))

    def check_safe(self, bridge, road, answer):
        self.assertIsInstance(answer, Safe)
        self.assertEqual([mechanism for mechanism, _ in answer.papers], list(mechanisms(bridge)))
        self.assertIsInstance(answer.papers, tuple)
        for paper in answer.papers:
            self.assertIsInstance(paper, tuple)
            mechanism, tables = paper
            self.assertIsInstance(tables, tuple)
            self.assertEqual(len(tables), len(road.rules))
            for lane, table in enumerate(tables):
                self.assertIsInstance(table, tuple)
                self.assertIsNone(potentials_fault(bridge, road, lane, mechanism, table))
            self.assertLessEqual(work(bridge, mechanism) + sum(table_most(table) for table in tables), 0)

    def test_example(self):
        self.assertFalse(self.check(E, Road((0, 8, 16, 24), (SINGLE,))))
        answer = verdict(E, R)
        self.assertEqual((answer.mechanism.hinges, answer.work), ((0, 3, 4, 7), 48))

    def test_tiny_roads(self):
        rng = random.Random(300)
        kinds = [self.check(*pair) for pair in tiny_pairs(rng, 120)]
        self.assertGreater(kinds.count(True), 25)
        self.assertGreater(kinds.count(False), 25)

    def test_all_scenes(self):
        # The main promise: safe exactly if the bridge bears every scene; by fractions, without mechanisms.
        rng = random.Random(301)
        kinds = []
        for bridge, road in tiny_pairs(rng, 60, lanes=1, stones=None, longest=1, gap=2):
            scenes = scenes_of_few(road, 400)
            if not scenes:
                continue
            loads = {tuple((f.up, f.moment) for f in scene_load(road, scene)): scene_load(road, scene)
                     for scene in scenes}
            kinds.append(is_safe(bridge, road))
            self.assertEqual(kinds[-1], all(is_borne(bridge, load) for load in loads.values()))
        self.assertGreater(kinds.count(True), 5)
        self.assertGreater(kinds.count(False), 5)

    def test_scenes_of_a_safe_road_are_borne(self):
        rng = random.Random(302)
        seen = 0
        for _ in range(60):
            bridge, road = tiny_pair(rng, times=30, lanes=2)
            if is_safe(bridge, road):
                seen += 1
                for scene in some_scenes(rng, road, 20):
                    self.assertTrue(bears(bridge, scene_load(road, scene)))
        self.assertGreater(seen, 20)

    def test_large_bridges(self):
        rng = random.Random(303)
        for times, wanted in ((10 ** 7, Safe), (1, Unsafe)):
            bridge = arch(6)
            bridge = bridge.with_own(bridge.own * times)
            road = Road(tuple(range(0, 73, 12)), [random_rule(rng, ("ox", "cob", "nag"), 4, 50, 9) for _ in range(2)])
            answer = verdict(bridge, road)
            self.assertIsInstance(answer, wanted)
            self.assertIsNone(verdict_fault(bridge, road, answer))
            for scene in some_scenes(rng, road, 3, 2):
                self.assertTrue(times == 1 or bears(bridge, scene_load(road, scene)))

    def test_rules_without_a_step(self):
        rng = random.Random(304)
        for bridge in [E, F, WALL] + [random_bridge(rng, rng.randint(1, 3)) for _ in range(30)]:
            road = Road(tuple(range(bridge.stones + 1)), (TURNS.only(()), SINGLE.only(())))
            self.assertEqual(self.check(bridge, road), bears(bridge))

    def test_no_mechanism(self):
        road = Road((0, 8), (SINGLE, TURNS))
        answer = verdict(WALL, road)
        self.assertIsInstance(answer, Safe)
        self.assertEqual(answer.papers, ())
        self.assertIs(is_safe(WALL, road), True)

    def test_great_weights(self):
        times = 10 ** 29
        light = Road((0, 8, 16, 24), (SINGLE, TURNS.turned()))
        road = Road((0, 8, 16, 24), (SINGLE.weighted(times), TURNS.weighted(times).turned()))
        self.assertEqual((factor(E, light), factor(heavy(times), road)), ((8, 63), (8, 63)))
        # One less in the last of the figures, and it falls.
        least = 63 * times // 8
        self.assertEqual([is_safe(heavy(least + more), road) for more in (-1, 0, 1)], [False, True, True])
        for number in (least, least - 1, 1):
            self.assertIsNone(verdict_fault(heavy(number), road, verdict(heavy(number), road)))

    def test_no_rest(self):
        # At a sum of exactly 0 the bridge is safe.
        self.assertTrue(is_safe(heavy(4), R))
        self.assertEqual(max(amount for _, amount in sums(heavy(4), Road((0, 8, 16, 24), (SINGLE,)))), 0)
        self.assertFalse(is_safe(Bridge(E.joints, E.own * 4 + Load.single(3, 0, Force.hanging(1, 4))), R))

    def test_an_amount_of_1(self):
        answer = verdict(pivot(1, 0), Road((0, 2), (GIGS,)))
        self.assertEqual((answer.mechanism.numbers, answer.work), ((1, 0, 0, 1), 1))
        self.assertIs(is_safe(pivot(1, 0), Road((0, 2), (GIGS,))), False)
        self.assertIs(is_safe(pivot(1, 1), Road((0, 2), (GIGS,))), True)
        self.assertEqual(factor(pivot(1, 0), Road((0, 2), (GIGS,))), (0, 1))
        self.assertEqual(factor(pivot(1, 1), Road((0, 2), (GIGS,))), (1, 1))
        self.assertEqual(permits(pivot(1, 0), Road((0, 2), (GIGS,))), ((),))

    def test_lanes_add_up(self):
        one, two = Road((0, 8, 16, 24), (SINGLE,)), Road((0, 8, 16, 24), (SINGLE, SINGLE.turned()))
        self.assertEqual([is_safe(heavy(times), one) for times in (3, 4, 7, 8)], [False, True, True, True])
        self.assertEqual([is_safe(heavy(times), two) for times in (3, 4, 7, 8)], [False, False, False, True])

    def test_errors(self):
        for bridge, road in ((E, Road((0, 8), (SINGLE,))), (WALL, R), (F, R)):
            for call in (verdict, is_safe, factor, permits, least_extra_gap):
                with self.assertRaises(OtherSize):
                    call(bridge, road)
        # Also where the own load alone is not borne.
        with self.assertRaises(OtherSize):
            factor(E.with_own(-E.own), Road((0, 8), (SINGLE,)))

    def test_results_keep_their_arguments(self):
        self.assertEqual(Safe(papers=(1,)).papers, (1,))
        answer = Unsafe(scene=3, work=2, mechanism=1)
        self.assertEqual((answer.mechanism, answer.work, answer.scene), (1, 2, 3))
        answer = Unsafe(1, 2, 3)
        self.assertEqual((answer.mechanism, answer.work, answer.scene), (1, 2, 3))


class LikenessTest(unittest.TestCase):
    """What [7.10] promises."""

    def test_mirrored_moved_and_scaled(self):
        rng = random.Random(305)
        for bridge, road in tiny_pairs(rng, 80):
            wanted = is_safe(bridge, road)
            self.assertEqual(is_safe(bridge.mirrored(), road.mirrored()), wanted)
            across, up, times = rng.randint(-50, 50), rng.randint(-50, 50), rng.randint(2, 5)
            moved = Road([border + across for border in road.borders], road.rules)
            self.assertEqual(is_safe(bridge.moved(across, up), moved), wanted)
            self.assertEqual(is_safe(bridge.scaled(times), road.scaled(times)), wanted)

    def test_a_stone_cut_in_two(self):
        rng = random.Random(306)
        kinds = []
        for _ in range(100):
            bridge, road = tiny_pair(rng, times=30)
            places = [x for x in range(road.borders[0] + 1, road.borders[-1]) if x not in road.borders]
            if not places:
                continue
            x = rng.choice(places)
            stone = road.stones_at(x)[0]
            joint = ((x, rng.randint(-4, 0)), (x, rng.randint(1, 4)))
            cut = bridge.cut(stone, joint, bridge.own[stone])
            kinds.append((is_safe(bridge, road), is_safe(cut, Road(sorted(road.borders + (x,)), road.rules))))
        self.assertNotIn((False, True), kinds)
        self.assertIn((True, True), kinds)
        self.assertIn((True, False), kinds)

    def test_rules_within_rules(self):
        # Longer gaps, fewer carts and a shut lane never make a safe road unsafe.
        rng = random.Random(307)
        for bridge, road in tiny_pairs(rng, 40, times=3):
            if is_safe(bridge, road):
                for less in (road.spaced(2), road.only(("ox",)), road.only(())):
                    self.assertTrue(is_safe(bridge, less))


class FactorTest(unittest.TestCase):
    def check(self, bridge, road):
        found = factor(bridge, road)
        if found is None:
            self.assertTrue(is_safe(bridge, road.weighted(10 ** 20)))
            return found
        top, bottom = found
        self.assertEqual(compare_ratios(found, found), 0)
        if top > 0:
            at_it = bridge.with_own(bridge.own * bottom), road.weighted(top)
            self.assertTrue(is_safe(*at_it))
            self.assertTrue(second_is_safe(*at_it))
        above = bridge.with_own(bridge.own * (bottom * 10 ** 9)), road.weighted(top * 10 ** 9 + 1)
        self.assertFalse(is_safe(*above))
        return found

    def test_example(self):
        self.assertEqual(self.check(E, R), (1, 4))

    def test_tiny_roads(self):
        rng = random.Random(308)
        kinds = [self.check(bridge, road) for bridge, road in tiny_pairs(rng, 80, times=2)
                 if bears(bridge)]
        self.assertGreater(len([one for one in kinds if one is None]), 3)
        self.assertGreater(len([one for one in kinds if one is not None and one[0] > 0]), 20)

    def test_no_factor_but_0(self):
        # Without own loads each mechanism that a cart makes work leaves the factor 0.
        self.assertEqual(self.check(Bridge(E.joints), R), (0, 1))

    def test_every_factor(self):
        self.assertIsNone(self.check(E, QUIET))
        self.assertIsNone(factor(WALL, Road((0, 8), (SINGLE,))))

    def test_own_load_alone_falls(self):
        rng = random.Random(309)
        seen = 0
        for bridge, road in tiny_pairs(rng, 30, times=1) + [(E.with_own(-E.own), QUIET)]:
            bridge = bridge.with_own(-bridge.own)
            if not bears(bridge):
                seen += 1
                with self.assertRaises(NotStanding) as caught:
                    factor(bridge, road)
                self.assertEqual(caught.exception.mechanism, stands(bridge).mechanism)
        self.assertGreater(seen, 10)

    def test_weighted_carts(self):
        self.assertEqual(factor(E, R.weighted(3)), (1, 12))
        self.assertEqual(factor(heavy(12), R.weighted(2)), (3, 2))


class PermitsTest(unittest.TestCase):
    def second(self, bridge, road):
        names = []
        for rule in road.rules:
            names.extend(cart.name for cart in rule.carts if cart.name not in names)
        safe = [some for size in range(len(names), -1, -1) for some in itertools.combinations(range(len(names)), size)
                if is_safe(bridge, road.only([names[at] for at in some]))]
        greatest = [some for some in safe if not any(set(some) < set(other) for other in safe)]
        return tuple(tuple(names[at] for at in some) for some in greatest)

    def check(self, bridge, road):
        found = permits(bridge, road)
        self.assertEqual(found, self.second(bridge, road))
        self.assertIsInstance(found, tuple)
        self.assertTrue(all(isinstance(some, tuple) for some in found))
        return found

    def test_example(self):
        self.assertEqual(self.check(E, R), ((),))

    def test_tiny_roads(self):
        rng = random.Random(310)
        counts = []
        for _ in range(60):
            bridge, road = tiny_pair(rng, times=rng.choice((-1, 3, 3)), lanes=1, names=("ox", "cob", "nag"), heaviest=9)
            lanes = [road.rules[0], random_rule(rng, ("nag", "elk"), longest=1)]
            counts.append(len(self.check(bridge, Road(road.borders, lanes[:rng.randint(1, 2)]))))
        self.assertEqual(set(counts) & {0, 1, 2}, {0, 1, 2})
        self.assertGreater(max(counts), 1)

    def test_all_names(self):
        self.assertEqual(self.check(heavy(9), R), (("dray",),))
        self.assertEqual(self.check(WALL, Road((0, 8), (TURNS, SINGLE))), (("van", "gig", "dray"),))

    def test_a_name_without_a_step(self):
        idle = Rule((DRAY, Cart("sled", ((0, 9),), 0)), ((0, "dray", 30, 0),))
        self.assertEqual(self.check(E, Road((0, 8, 16, 24), (idle,))), (("sled",),))
        self.assertEqual(self.check(E, Road((0, 8, 16, 24), (idle.only(()),))), (("dray", "sled"),))

    def test_own_load_alone_falls(self):
        self.assertEqual(self.check(E.with_own(-E.own), R), ())
        self.assertEqual(self.check(E.with_own(-E.own), QUIET), ())

    def test_order(self):
        # Each lane bears one of its two kinds, in either order of the names.
        kinds = [Cart(name, ((0, 8),), 0) for name in ("b", "a", "d", "c")]
        rules = [Rule(kinds[:2], ((0, "b", 30, 0), (0, "a", 30, 0))), Rule(kinds[2:], ((0, "d", 30, 0), (0, "c", 30, 0)))]
        road = Road((0, 8, 16, 24), rules)
        self.assertEqual(self.check(heavy(4), road), (("b", "a"), ("d", "c")))
        self.assertEqual(self.check(heavy(8), road), (("b", "a", "d", "c"),))
        light = Rule([Cart("a", ((0, 4),), 0), Cart("b", ((0, 4),), 0), Cart("c", ((0, 8),), 0)],
                     [(0, name, 30, 0) for name in "abc"])
        other = Rule([Cart("d", ((0, 4),), 0)], ((0, "d", 30, 0),))
        self.assertEqual(self.check(heavy(4), Road((0, 8, 16, 24), (light, other))), (("a", "b", "c"), ("a", "b", "d")))

    def test_rooms_that_only_one_cart_reaches(self):
        turns = Rule((Cart("key", ((0, 1),), 0), Cart("ox", ((0, 99),), 0)), ((0, "key", 1, 1), (1, "ox", 1, 0)))
        self.assertEqual(self.check(heavy(9), Road((0, 8, 16, 24), (turns,))), (("key",), ("ox",)))


class LeastExtraGapTest(unittest.TestCase):
    def check(self, bridge, road):
        found = least_extra_gap(bridge, road)
        span = road.borders[-1] - road.borders[0]
        if found is None:
            self.assertFalse(is_safe(bridge, road.spaced(span)))
            self.assertFalse(is_safe(bridge, road.spaced(10 ** 6)))
            rows = [list(rows_up_to(road, lane, 1)) for lane in range(len(road.rules))]
            if len(rows[0]) * len(rows[-1]) < 600:
                self.assertFalse(all(bears(bridge, scene_load(road, scene)) for scene in all_scenes(road, 1)))
        else:
            self.assertTrue(0 <= found <= span)
            self.assertTrue(is_safe(bridge, road.spaced(found)))
            self.assertTrue(is_safe(bridge, road.spaced(found + 1)))
            self.assertTrue(found == 0 or not is_safe(bridge, road.spaced(found - 1)))
        return found

    def test_tiny_roads(self):
        rng = random.Random(311)
        kinds = []
        for _ in range(150):
            bridge, road = tiny_pair(rng, times=rng.choice((2, 4, 8)), gap=1, rooms=1, longest=0)
            kinds.append(self.check(bridge, road))
        self.assertLess({None, 0, 1, 2}, set(kinds) | {-1})

    def test_longer_roads(self):
        found = [self.check(heavy(times), Road((0, 8, 16, 24), (THIN, LIGHT.turned()))) for times in range(1, 8)]
        self.assertEqual(found, [None, None, 3, 1, 1, 0, 0])

    def test_safe_and_never_safe(self):
        self.assertEqual(self.check(E, QUIET), 0)
        self.assertIsNone(self.check(E, R))
        self.assertEqual(self.check(WALL, Road((0, 8), (SINGLE,))), 0)
        self.assertIsNone(self.check(E.with_own(-E.own), QUIET))

    def test_the_greatest_number(self):
        # A gig alone works at most 4, and two of them on the bridge at one time at least 5.
        self.assertEqual(self.check(pivot(-1, -4), Road((0, 3), (GIGS,))), 3)
        self.assertIsNone(self.check(pivot(-1, -3), Road((0, 3), (GIGS,))))
        self.assertEqual(self.check(pivot(-1, -5), Road((0, 3), (GIGS,))), 2)
        self.assertEqual(self.check(pivot(-1, -5), Road((0, 3), (GIGS.turned(),))), 2)
        self.assertEqual(self.check(pivot(-1, -8), Road((0, 3), (GIGS, GIGS))), 3)
