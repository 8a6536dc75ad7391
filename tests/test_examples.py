"""The examples that the document prints."""

import unittest

from fourhinges.bridge import Bridge
from fourhinges.bridgetext import bridge_text, read_bridge, work_table
from fourhinges.carts import Cart
from fourhinges.changes import Ballast, changed
from fourhinges.cracks import open_sets
from fourhinges.errors import BadRow
from fourhinges.forces import Force
from fourhinges.greatest import Endless, greatest
from fourhinges.heaviest import heaviest
from fourhinges.limits import Limit, LimitedFalls, limited_stands
from fourhinges.loads import Load
from fourhinges.mechanisms import mechanism_on, mechanisms
from fourhinges.mends import least_mends
from fourhinges.motions import Motion
from fourhinges.needed import needed
from fourhinges.orders import ClosedLot, build_order
from fourhinges.palettes import factor_range, work_row
from fourhinges.relief import NoRelief, Relief, relief
from fourhinges.road import Road
from fourhinges.roadtext import road_text
from fourhinges.rules import Rule, row_beyond, row_fault
from fourhinges.scenes import scene_load
from fourhinges.stages import stage_fall
from fourhinges.stands import bears, stands
from fourhinges.supports import supports
from fourhinges.sure import fixed_range
from fourhinges.through import through
from fourhinges.thrust import Thrust, crossing, first_barred, touched
from fourhinges.traffic import factor, is_safe, permits, verdict
from fourhinges.weights import work
from fourhinges.workline import WorkLine
from fourhinges.yard import Yard, spans


class ExamplesTest(unittest.TestCase):
    def setUp(self):
        joints = (((0, -1), (0, 1)), ((8, 7), (8, 9)), ((16, 7), (16, 9)), ((24, -1), (24, 1)))
        self.bridge = Bridge(joints, Load((Force.hanging(1, 4), Force.hanging(1, 12), Force.hanging(1, 20))))

    def test_part_1(self):
        self.assertEqual(self.bridge.point(3), (8, 9))
        self.assertTrue(self.bridge.own.before(2) == Force(0, -2, -16))
        self.assertEqual(Force.hanging(1, 4).about((8, 9)), 4)

    def test_part_2(self):
        first = through(self.bridge, (0, 3, 7))
        self.assertEqual((first.force.across, first.force.up, first.force.moment, first.parts), (6, 11, 6, 7))
        self.assertEqual(first_barred(self.bridge, first), 5)
        self.assertEqual(crossing(self.bridge, first, 2), (4, 3))
        second = Thrust(Force(2, 3, 2), 2)
        self.assertEqual((first_barred(self.bridge, second), touched(self.bridge, second)), (None, (0, 2, 4, 6)))

    def test_part_3(self):
        found = list(mechanisms(self.bridge))
        self.assertEqual((len(found), found[0].hinges, found[3].hinges, found[13].hinges),
                         (14, (0, 1, 2, 5), (0, 3, 4, 7), (3, 4, 6, 7)))
        weights = mechanism_on(self.bridge, (0, 3, 4, 7))
        self.assertEqual(weights.numbers, (1, 0, 0, 5, 7, 0, 0, 3))
        self.assertEqual(work(self.bridge, weights), -16)
        self.assertEqual(work(self.bridge, weights, Load.single(3, 0, Force.hanging(8, 4))), 16)

    def test_part_4(self):
        self.assertEqual(stands(self.bridge, Load.single(3, 0, Force.hanging(8, 4))).work, 16)
        self.assertEqual(greatest(self.bridge, Motion(0, 1, 0)).amount, (4, 3))
        self.assertEqual(greatest(self.bridge, Motion(0, -1, 0)).amount, (-4, 5))

    def test_part_4_in_one_line(self):
        bridge = Bridge((((1, 0), (0, 0)), ((2, 0), (3, 0))))
        flat = list(mechanisms(bridge))
        self.assertEqual((len(flat), flat[0].numbers, flat[1].numbers), (2, (3, 2, 0, 1), (0, 1, 3, 2)))
        pairs = list(supports(bridge, Motion(0, 0, 1)))
        self.assertEqual((len(pairs), pairs[0][0].numbers, pairs[0][1], pairs[1][0].numbers, pairs[1][1]),
                         (2, (1, 0, 0, 1), 2, (0, 0, 1, 1), 1))
        self.assertEqual(greatest(bridge, Motion(0, 0, 1)).amount, (0, 1))
        self.assertIsInstance(greatest(bridge, Motion(0, 1, 0)), Endless)

    def test_part_5(self):
        first = Load.single(3, 0, Force.hanging(1, 4))
        third = Load.single(3, 2, Force.hanging(1, 20))
        weights = mechanism_on(self.bridge, (0, 3, 4, 7))
        self.assertEqual(work_row(self.bridge, weights, (first, third)), (4, -12))
        self.assertEqual(factor_range(self.bridge, first).high, (4, 1))
        loads = (first * 8, first * 8 + third * 2, first * 11 + third * 2)
        self.assertEqual(tuple(bears(self.bridge, load) for load in loads), (False, True, False))
        middle = Load.single(3, 1, Force.hanging(1, 12))
        kept = needed(self.bridge, (first, middle, third)).kept
        self.assertEqual((len(kept), kept[0][0].hinges, kept[1][0].hinges), (2, (0, 3, 4, 7), (1, 2, 5, 6)))
        heavy = self.bridge.with_own(self.bridge.own + first * 8)
        self.assertIsInstance(relief(heavy, (third,), (1,)), NoRelief)
        self.assertIsInstance(relief(heavy, (third,), (2,)), Relief)

    def test_parts_6_and_7(self):
        rule = Rule((Cart("dray", ((0, 8),), 0),), ((0, "dray", 30, 0),))
        road = Road((0, 8, 16, 24), (rule,))
        weights = mechanism_on(self.bridge, (0, 3, 4, 7))
        line = WorkLine(self.bridge, road, weights)
        self.assertEqual((line(0), line(4), line(8), line(12), line(16), line(20), line(24)),
                         (0, 4, 8, -8, -24, -12, 0))
        self.assertEqual(row_fault(rule, (0, (("dray", 20), ("dray", -9)))), (1, "gap"))
        self.assertEqual(road.stones_at(8), (0, 1))
        self.assertIsNone(row_beyond(rule.spaced(1), rule))
        self.assertEqual(len(row_beyond(rule, rule.spaced(1))[1]), 2)
        self.assertEqual(heaviest(self.bridge, road, 0, weights).amount, 64)
        answer = verdict(self.bridge, road)
        self.assertEqual((answer.mechanism.hinges, answer.work), ((0, 3, 4, 7), 48))
        self.assertEqual(work(self.bridge, answer.mechanism, scene_load(road, answer.scene)), 48)
        self.assertEqual(factor(self.bridge, road), (1, 4))
        self.assertEqual(permits(self.bridge, road), ((),))

    def test_part_8(self):
        across = Motion(0, 1, 0)
        self.assertTrue(limited_stands(self.bridge, (Limit(across, 1),)).thrust.force.across >= 0)
        self.assertIsInstance(limited_stands(self.bridge, (Limit(across, 0),)), LimitedFalls)
        rule = Rule((Cart("dray", ((0, 8),), 0),), ((0, "dray", 30, 0),))
        none = Road((0, 8, 16, 24), (rule.only(()),))
        found = fixed_range(self.bridge, none, across)
        self.assertEqual((found.low, found.high), ((4, 5), (4, 3)))
        self.assertIs(fixed_range(self.bridge, none, across).fits((1, 1)), True)
        self.assertEqual(open_sets(Bridge((((1, 0), (0, 0)), ((2, 0), (3, 0))))), ((0, 1, 2, 3),))

    def test_part_9(self):
        yard = Yard(self.bridge, (0, 8, 16, 24))
        self.assertEqual(spans(yard, (2, 0, (0,))), ((1, 1, True, False),))
        self.assertIs(stage_fall(yard, (1, 0, ())) is None, False)
        self.assertIs(stage_fall(yard, (1, 0, (0,))) is None, True)
        self.assertIsInstance(build_order(yard, 0), ClosedLot)
        self.assertEqual(build_order(yard, 0).stages, ((0, 0, ()),))

    def test_part_10(self):
        quiet = Road((0, 8, 16, 24), (Rule((Cart("dray", ((0, 8),), 0),), ()),))
        heavy = self.bridge.with_own(self.bridge.own + Load.single(3, 0, Force.hanging(8, 4)))
        pool = (Ballast(2, 20, 2), Ballast(0, 4, 3), Ballast(2, 20, 1))
        mends = least_mends(heavy, quiet, pool)
        self.assertEqual((len(mends), mends[0].indexes, mends[0].breaches[0][1].work), (1, (0,), 16))
        two, road = changed(heavy, quiet, pool[:2])
        self.assertIs(is_safe(two, road), False)
        three, road = changed(heavy, quiet, pool)
        self.assertIs(is_safe(three, road), True)

    def test_part_11(self):
        self.assertEqual(bridge_text(Bridge((((0, 0), (0, 2)), ((8, 0), (8, 2))))),
                         "bridge 1\njoint 0 0 0 2\njoint 8 0 8 2\nown 0 0 0")
        rule = Rule((Cart("dray", ((0, 8),), 0),), ((0, "dray", 30, 0),))
        self.assertEqual(road_text(Road((0, 8, 16, 24), (rule,))),
                         "road 0 8 16 24\nlane 1\ncart dray 0 0 8\nstep 0 dray 30 0")
        self.assertEqual(work_table(self.bridge).split("\n")[3], "0,3,4,7                -16")
        with self.assertRaises(BadRow) as caught:
            read_bridge("bridge 1\njoint 0 0 0 2")
        self.assertEqual((caught.exception.row, caught.exception.what), (3, "end"))
