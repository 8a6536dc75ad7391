import unittest

from fourhinges.bridge import Bridge
from fourhinges.errors import BadBridge, BadRing, NoCorner, NoPart, NoStone, OtherSize
from fourhinges.forces import Force
from fourhinges.loads import Load
from fourhinges.rings import ring_force
from tests.samples import E, EJ, HUGE, NO_WHOLE, misses, numbers_of, random_bridges
from tests.test_rings import FIRST, JOINTS, SECOND

FAR = 1000000


def joints_of(count):
    return tuple([((k, 0), (k, 1)) for k in range(count)])


class Bad(unittest.TestCase):
    def check_bad(self, what, joint, make, *arguments):
        with self.assertRaises(BadBridge) as caught:
            make(*arguments)
        self.assertEqual((caught.exception.what, caught.exception.joint), (what, joint))


class MakeTest(Bad):
    def test_nested_tuples(self):
        joints = [[[0, 1], (2, 3)], ([4, 5], [6, 7]), ((8, 9), (10, 11))]
        bridge = Bridge(joints)
        joints[0][0][0] = 99
        joints.append(None)
        self.assertEqual(bridge.joints, (((0, 1), (2, 3)), ((4, 5), (6, 7)), ((8, 9), (10, 11))))
        self.assertEqual((bridge.stones, bridge.corner_count), (2, 6))

    def test_own(self):
        self.assertEqual(Bridge(EJ).own, Load.none(3))
        self.assertEqual(Bridge(EJ, None).own, Load.none(3))
        load = Load((Force(1, 2, 3), Force(4, 5, 6), Force(7, 8, 9)))
        self.assertEqual(Bridge(EJ, load).own, load)
        self.assertEqual(Bridge(joints=EJ, own=load).own, load)

    def test_counts(self):
        for count in range(2, 10):
            bridge = Bridge(joints_of(count))
            self.assertEqual((bridge.stones, bridge.corner_count), (count - 1, 2 * count))
        for thing in ((), joints_of(1), joints_of(10), None, 3, "ab", {0: 1, 1: 2}, E, iter(EJ)):
            self.check_bad("joints", None, Bridge, thing)

    def test_joint(self):
        for thing in (None, 3, "ab", (), ((0, 0),), ((0, 0), (0, 1), (0, 2)), {0: (0, 0), 1: (0, 1)}):
            self.check_bad("joint", 0, Bridge, (thing,) + EJ)
            self.check_bad("joint", 2, Bridge, EJ[:2] + (thing,))

    def test_corner(self):
        for thing in ((FAR + 1, 0), (0, FAR + 1), (-FAR - 1, 0), (0, -FAR - 1), None, (0,), (0, 0, 0), "ab", 5,
                      (True, 0), (0, None)):
            self.check_bad("corner", 0, Bridge, ((thing, (0, 1)),) + EJ)
            self.check_bad("corner", 3, Bridge, EJ[:3] + (((0, 1), thing),))
            self.check_bad("corner", 1, Bridge, EJ[:1] + ((thing, thing),))

    def test_bounds(self):
        joints = (((FAR, -FAR), (-FAR, FAR)), ((FAR, FAR), (-FAR, -FAR)))
        self.assertEqual(Bridge(joints).joints, joints)

    def test_same(self):
        self.check_bad("same", 1, Bridge, EJ[:1] + (((2, 3), [2, 3]),))
        self.assertEqual(Bridge((EJ[0], EJ[0])).stones, 1)

    def test_first_wrong_joint(self):
        same, corner, joint = ((0, 0), (0, 0)), ((0, 0), None), None
        self.check_bad("same", 0, Bridge, (same, joint, corner))
        self.check_bad("corner", 0, Bridge, (corner, joint, same))
        self.check_bad("joint", 1, Bridge, (EJ[0], joint, same, corner), 3)

    def test_joints_before_own(self):
        self.check_bad("same", 2, Bridge, EJ[:2] + (((0, 0), (0, 0)),), 3)
        self.check_bad("joints", None, Bridge, EJ[:1], 3)

    def test_bad_own(self):
        for thing in (3, False, 0, (), "", [Force.none()] * 3, Force.none(), Load.none(2), Load.none(4), E):
            self.check_bad("own", None, Bridge, EJ, thing)


class ReadTest(unittest.TestCase):
    def test_point(self):
        self.assertEqual([E.point(corner) for corner in range(8)], [point for joint in EJ for point in joint])
        for thing in misses(8):
            with self.assertRaises(NoCorner) as caught:
                E.point(thing)
            self.assertIs(caught.exception.corner, thing)

    def test_total(self):
        load = Load((Force(1, 2, 3), Force(4, 5, 6), Force(7, 8, HUGE)))
        self.assertEqual(E.total(), E.own)
        self.assertEqual(E.total(None), E.own)
        self.assertEqual(E.total(load), E.own + load)
        self.assertEqual(E.total(load=load)[2], Force(7, 7, HUGE - 20))
        for stones in (1, 2, 4, 8):
            with self.assertRaises(OtherSize):
                E.total(Load.none(stones))

    def test_equal(self):
        self.assertTrue(E == Bridge(EJ, Load(list(E.own))))
        for other in (Bridge(EJ), E.exchanged(), E.between(0, 2), E.moved(1, 0), EJ, None, E.own, (EJ, E.own), 3):
            self.assertFalse(E == other)
            self.assertTrue(E != other)


class ChangeTest(Bad):
    LOAD = Load((Force(1, 2, 3), Force(-4, 5, 6)))
    BRIDGE = Bridge((((0, 1), (2, 5)), ((10, 11), (12, 17)), ((20, 3), (25, 4))), LOAD)

    def tearDown(self):
        self.assertEqual(self.BRIDGE.joints, (((0, 1), (2, 5)), ((10, 11), (12, 17)), ((20, 3), (25, 4))))
        self.assertEqual(numbers_of(self.BRIDGE.own), [(1, 2, 3), (-4, 5, 6)])

    def check(self, bridge, joints, own):
        self.assertIsInstance(bridge, Bridge)
        self.assertEqual(bridge.joints, joints)
        self.assertEqual(numbers_of(bridge.own), own)

    def test_with_own(self):
        self.check(self.BRIDGE.with_own(-self.LOAD), self.BRIDGE.joints, [(-1, -2, -3), (4, -5, -6)])
        for stones in (1, 3, 8):
            with self.assertRaises(OtherSize):
                self.BRIDGE.with_own(Load.none(stones))

    def test_moved(self):
        self.check(self.BRIDGE.moved(100, -7), (((100, -6), (102, -2)), ((110, 4), (112, 10)), ((120, -4), (125, -3))),
                   [(1, 2, 3 + 200 + 7), (-4, 5, 6 + 500 - 28)])
        self.assertEqual(self.BRIDGE.moved(0, 0), self.BRIDGE)

    def test_moved_beyond(self):
        self.assertEqual(self.BRIDGE.moved(FAR - 25, FAR - 17).point(5)[0], FAR)
        self.check_bad("corner", 2, self.BRIDGE.moved, FAR - 24, 0)
        self.check_bad("corner", 1, self.BRIDGE.moved, 0, FAR - 16)
        self.check_bad("corner", 0, self.BRIDGE.moved, -FAR - 1, 0)
        self.check_bad("corner", 0, self.BRIDGE.moved, HUGE, HUGE)
        self.check_bad("corner", 1, self.BRIDGE.moved, FAR - 11, 0)

    def test_mirrored(self):
        self.check(self.BRIDGE.mirrored(), (((-20, 3), (-25, 4)), ((-10, 11), (-12, 17)), ((0, 1), (-2, 5))),
                   [(4, 5, -6), (-1, 2, -3)])
        self.assertEqual(self.BRIDGE.mirrored().mirrored(), self.BRIDGE)

    def test_exchanged(self):
        self.check(self.BRIDGE.exchanged(), (((2, 5), (0, 1)), ((12, 17), (10, 11)), ((25, 4), (20, 3))),
                   [(1, 2, 3), (-4, 5, 6)])

    def test_scaled(self):
        self.check(self.BRIDGE.scaled(3), (((0, 3), (6, 15)), ((30, 33), (36, 51)), ((60, 9), (75, 12))),
                   [(1, 2, 9), (-4, 5, 18)])
        self.assertEqual(self.BRIDGE.scaled(1), self.BRIDGE)

    def test_scaled_beyond(self):
        self.assertEqual(self.BRIDGE.scaled(40000).point(5), (FAR, 160000))
        self.check_bad("corner", 2, self.BRIDGE.scaled, 40001)
        self.check_bad("corner", 1, self.BRIDGE.scaled, 83334)
        self.check_bad("corner", 0, self.BRIDGE.scaled, HUGE)

    def test_changes_move_forces_with_points(self):
        for bridge in random_bridges(3, 20):
            moved, scaled, mirrored = bridge.moved(5, -3), bridge.scaled(7), bridge.mirrored()
            for stone, force in enumerate(bridge.own):
                for corner in range(bridge.corner_count):
                    moment = force.about(bridge.point(corner))
                    self.assertEqual(moved.own[stone].about(moved.point(corner)), moment)
                    self.assertEqual(scaled.own[stone].about(scaled.point(corner)), 7 * moment)
                    x, y = bridge.point(corner)
                    self.assertEqual(mirrored.own[bridge.stones - 1 - stone].about((-x, y)), -moment)


class PartTest(Bad):
    def test_between(self):
        for first in range(3):
            for last in range(first + 1, 4):
                part = E.between(first, last)
                self.assertEqual(part.joints, EJ[first:last + 1])
                self.assertEqual(list(part.own), list(E.own)[first:last])

    def test_no_part(self):
        wrong = [(1, 1), (2, 1), (0, 0), (3, 3), (-1, 2), (0, 4), (3, 4), (3, 0)]
        for thing in misses(4):
            wrong = wrong + [(thing, 3), (0, thing), (thing, thing)]
        for first, last in wrong:
            with self.assertRaises(NoPart) as caught:
                E.between(first, last)
            self.assertIs(caught.exception.first, first)
            self.assertIs(caught.exception.last, last)

    def test_cut(self):
        for stone in range(3):
            joint, left = [[1, 2], (3, 4)], Force(5, 6, 7)
            longer = E.cut(stone, joint, left)
            self.assertEqual(longer.joints, EJ[:stone + 1] + (((1, 2), (3, 4)),) + EJ[stone + 1:])
            self.assertEqual(len(longer.own), 4)
            self.assertEqual(longer.own[stone], left)
            self.assertEqual(longer.own[stone + 1], E.own[stone] - left)
            self.assertEqual(list(longer.own)[:stone], list(E.own)[:stone])
            self.assertEqual(list(longer.own)[stone + 2:], list(E.own)[stone + 1:])
        self.assertEqual(E.joints, EJ)
        self.assertEqual(E.stones, 3)

    def test_cut_no_stone(self):
        for thing in misses(3):
            with self.assertRaises(NoStone) as caught:
                E.cut(thing, None, Force.none())
            self.assertIs(caught.exception.stone, thing)

    def test_cut_bad_joint(self):
        self.check_bad("joint", 1, E.cut, 0, None, Force.none())
        self.check_bad("joint", 3, E.cut, 2, ((0, 0),), Force.none())
        self.check_bad("corner", 2, E.cut, 1, ((0, 0), (FAR + 1, 0)), Force.none())
        self.check_bad("same", 2, E.cut, 1, ((0, 0), (0, 0)), Force.none())

    def test_cut_of_the_longest(self):
        for joint in (((0, 0), (0, 1)), None):
            self.check_bad("joints", None, Bridge(joints_of(9)).cut, 0, joint, Force.none())
        with self.assertRaises(NoStone):
            Bridge(joints_of(9)).cut(8, None, Force.none())
        self.assertEqual(Bridge(joints_of(8)).cut(6, ((0, 0), (0, 1)), Force.none()).stones, 8)


class OfRingsTest(Bad):
    def check_ring_error(self, what, stone, *arguments):
        with self.assertRaises(BadRing) as caught:
            Bridge.of_rings(*arguments)
        self.assertEqual((caught.exception.what, caught.exception.stone), (what, stone))

    def test_good(self):
        bridge = Bridge.of_rings(JOINTS, (FIRST, SECOND), (5, 10 ** 30))
        self.assertEqual(bridge.joints, JOINTS)
        self.assertEqual(bridge.own, Load((ring_force(FIRST, 5), ring_force(SECOND, 10 ** 30))))
        lists = [[[list(point) for point in row] for row in rows] for rows in (JOINTS, (FIRST, SECOND))]
        self.assertEqual(Bridge.of_rings(lists[0], lists[1], [5, 10 ** 30]), bridge)
        self.assertEqual(Bridge.of_rings(JOINTS, (FIRST, SECOND), (0, 0)), Bridge(JOINTS))

    def test_joints_first(self):
        self.check_bad("joints", None, Bridge.of_rings, JOINTS[:1], None, None)
        self.check_bad("same", 2, Bridge.of_rings, JOINTS[:2] + (((0, 0), (0, 0)),), None, None)

    def test_rings(self):
        for thing in (None, (), (FIRST,), (FIRST, SECOND, SECOND), "ab", {0: FIRST, 1: SECOND}):
            self.check_ring_error("rings", None, JOINTS, thing, None)

    def test_each_ring(self):
        self.check_ring_error("ring", 0, JOINTS, (None, None), None)
        self.check_ring_error("point", 1, JOINTS, (FIRST, (None, None, None)), None)
        self.check_ring_error("left", 0, JOINTS, (SECOND, None), None)
        self.check_ring_error("right", 0, JOINTS, (((0, 0), (5, 0), (0, 2)), None), None)
        self.check_ring_error("area", 1, JOINTS, (FIRST, ((4, 0), (8, 0), (8, 2), (6, -50), (4, 2))), None)

    def test_densities(self):
        wrong = [None, (), (1,), (1, 1, 1), "ab", {0: 1, 1: 1}, (-1, 1), (1, -1), (1, 10 ** 30 + 1)]
        wrong = wrong + [(1, thing) for thing in NO_WHOLE]
        for thing in wrong:
            self.check_ring_error("densities", None, JOINTS, (FIRST, SECOND), thing)
