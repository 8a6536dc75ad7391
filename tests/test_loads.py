import unittest

from fourhinges.errors import BadLoad, NoJoint, NoStone, OtherSize
from fourhinges.forces import Force
from fourhinges.loads import Load
from tests.samples import E, HUGE, NO_WHOLE, kinds_of, misses, numbers_of

ONE, TWO, THREE = Force(1, 20, 300), Force(4, 50, 600), Force(7, -80, HUGE)


class LoadTest(unittest.TestCase):
    def check_bad(self, what, make, *arguments):
        with self.assertRaises(BadLoad) as caught:
            make(*arguments)
        self.assertEqual(caught.exception.what, what)

    def test_keeps_its_forces(self):
        forces = [ONE, TWO]
        load = Load(forces)
        forces[0] = THREE
        forces.append(THREE)
        self.assertEqual(numbers_of(load), [(1, 20, 300), (4, 50, 600)])
        self.assertIs(type(load.forces), tuple)
        self.assertIs(type(Load((ONE,)).forces), tuple)

    def test_count(self):
        self.assertEqual(len(Load([ONE])), 1)
        self.assertEqual(len(Load([ONE] * 8)), 8)
        for thing in ([], (), [ONE] * 9, [None] * 9, None, 3, "abc", {1: ONE}, ONE, Load((ONE,)), iter([ONE])):
            self.check_bad("count", Load, thing)

    def test_force(self):
        for thing in NO_WHOLE + (3, Load((ONE,))):
            self.check_bad("force", Load, [thing])
            self.check_bad("force", Load, (ONE, ONE, thing))

    def test_item(self):
        load = Load((ONE, TWO, THREE))
        self.assertEqual(load[0], ONE)
        self.assertEqual(load[2], THREE)
        for thing in misses(3):
            with self.assertRaises(NoStone) as caught:
                load[thing]
            self.assertIs(caught.exception.stone, thing)

    def test_iteration(self):
        load = Load((ONE, TWO))
        self.assertEqual([kinds_of(force) for force in load], [(1, 20, 300), (4, 50, 600)])
        self.assertEqual(list(load), list(load))
        self.assertEqual(len(load), 2)

    def test_sums(self):
        one, other = Load((ONE, TWO)), Load((TWO, THREE))
        self.assertEqual(one + other, Load((ONE + TWO, TWO + THREE)))
        self.assertEqual(one - other, Load((ONE - TWO, TWO - THREE)))
        self.assertEqual(-one, Load((-ONE, -TWO)))
        self.assertEqual(one * -3, Load((ONE * -3, TWO * -3)))
        self.assertEqual(numbers_of(one), [(1, 20, 300), (4, 50, 600)])

    def test_other_sizes(self):
        for other in (Load((ONE,)), Load((ONE, ONE, ONE))):
            with self.assertRaises(OtherSize):
                Load((ONE, TWO)) + other
            with self.assertRaises(OtherSize):
                Load((ONE, TWO)) - other

    def test_equal(self):
        load = Load((ONE, TWO))
        self.assertTrue(load == Load([Force(1, 20, 300), Force(4, 50, 600)]))
        for other in (Load((TWO, ONE)), Load((ONE,)), Load((ONE, TWO, TWO)), (ONE, TWO), [ONE, TWO], None, 2, ONE):
            self.assertFalse(load == other)
            self.assertTrue(load != other)

    def test_none(self):
        for stones in range(1, 9):
            self.assertEqual(numbers_of(Load.none(stones)), [(0, 0, 0)] * stones)
        for thing in (0, 9, -1, HUGE) + NO_WHOLE:
            self.check_bad("count", Load.none, thing)

    def test_single(self):
        self.assertEqual(numbers_of(Load.single(3, 0, ONE)), [(1, 20, 300), (0, 0, 0), (0, 0, 0)])
        self.assertEqual(numbers_of(Load.single(3, 2, ONE)), [(0, 0, 0), (0, 0, 0), (1, 20, 300)])
        self.assertEqual(numbers_of(Load.single(8, 7, ONE))[7], (1, 20, 300))
        for thing in misses(3):
            with self.assertRaises(NoStone) as caught:
                Load.single(3, thing, ONE)
            self.assertIs(caught.exception.stone, thing)
        for thing in (0, 9, -1, HUGE) + NO_WHOLE:
            self.check_bad("count", Load.single, thing, -1, ONE)

    def test_before(self):
        load = Load((ONE, TWO, THREE))
        self.assertTrue(load.before(0).is_none)
        self.assertEqual(load.before(1), ONE)
        self.assertEqual(load.before(2), ONE + TWO)
        self.assertEqual(load.before(3), ONE + TWO + THREE)
        for thing in misses(4):
            with self.assertRaises(NoJoint) as caught:
                load.before(thing)
            self.assertIs(caught.exception.joint, thing)
        self.assertEqual(E.own.before(2), Force(0, -2, -16))
