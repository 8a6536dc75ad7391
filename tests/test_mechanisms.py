import itertools
import random
import unittest
from fractions import Fraction
from math import gcd, lcm

from fourhinges.bridge import Bridge
from fourhinges.errors import BadCorners, OtherSize
from fourhinges.forces import Force
from fourhinges.loads import Load
from fourhinges.mechanisms import heaviest_work, is_mechanism, mechanism_on, mechanisms
from fourhinges.weights import Weights, motion_of, work
from tests.samples import E, F, HUGE, WALL, misses, random_bridge, random_bridges, random_load

# An inner and an outer corner at one point.
SHARED = Bridge((((0, 0), (0, 2)), ((0, 2), (5, 7)), ((5, 7), (9, 9))))
# The outer corner of joint 0 lies in the middle between the two inner corners.
IN_LINE = Bridge((((0, 0), (2, 2)), ((4, 4), (4, 9))))
# An outer corner within a triangle of inner corners.
WITHIN = Bridge((((0, 0), (2, 1)), ((6, 0), (20, 1)), ((0, 6), (20, 9))))


def kernel(rows):
    """A basis of the numbers whose sums with the rows are all 0, by fractions."""
    rows = [[Fraction(number) for number in row] for row in rows]
    count = len(rows[0])
    pivots = []
    for column in range(count):
        at = len(pivots)
        found = [k for k in range(at, len(rows)) if rows[k][column] != 0]
        if not found:
            continue
        rows[at], rows[found[0]] = rows[found[0]], rows[at]
        rows[at] = [number / rows[at][column] for number in rows[at]]
        for k in range(len(rows)):
            if k != at:
                rows[k] = [a - rows[k][column] * b for a, b in zip(rows[k], rows[at])]
        pivots.append(column)
    basis = []
    for free in [column for column in range(count) if column not in pivots]:
        vector = [Fraction(0)] * count
        vector[free] = Fraction(1)
        for at, column in enumerate(pivots):
            vector[column] = -rows[at][free]
        basis.append(vector)
    return basis


def wanted_mechanisms(bridge, most=4):
    """All mechanisms, by the definition: their turns depend on each other in just one way, with like signs."""
    turns = [[(-1) ** c * number for number in (1, bridge.point(c)[1], -bridge.point(c)[0])]
             for c in range(bridge.corner_count)]
    wanted = []
    for size in range(2, most + 1):
        for corners in itertools.combinations(range(bridge.corner_count), size):
            basis = kernel([[turns[corner][k] for corner in corners] for k in range(3)])
            if len(basis) != 1:
                continue
            vector = [number * lcm(*[part.denominator for part in basis[0]]) for number in basis[0]]
            if all(number < 0 for number in vector):
                vector = [-number for number in vector]
            if all(number > 0 for number in vector):
                divisor = gcd(*[int(number) for number in vector])
                numbers = [0] * bridge.corner_count
                for corner, number in zip(corners, vector):
                    numbers[corner] = int(number) // divisor
                wanted.append((corners, tuple(numbers)))
    return sorted(wanted)


def turn(p, q, r):
    area = (q[0] - p[0]) * (r[1] - p[1]) - (r[0] - p[0]) * (q[1] - p[1])
    return (area > 0) - (area < 0)


def strictly_between(p, q, r):
    return turn(p, q, r) == 0 and (p[0] - q[0]) * (r[0] - q[0]) + (p[1] - q[1]) * (r[1] - q[1]) < 0


def cross_inside(p, q, r, s):
    return turn(p, q, r) * turn(p, q, s) < 0 and turn(r, s, p) * turn(r, s, q) < 0


def within(p, triangle):
    a, b, c = triangle
    return turn(a, b, p) == turn(b, c, p) == turn(c, a, p) != 0


def wanted_hinges(bridge):
    """The sets of hinges that the document draws: a point, a line, crossing segments, a triangle."""
    inner = range(0, bridge.corner_count, 2)
    outer = range(1, bridge.corner_count, 2)
    at = bridge.point
    found = [(a, b) for a in inner for b in outer if at(a) == at(b)]
    for ones, others in ((inner, outer), (outer, inner)):
        found += [(a, b, c) for a in ones for b, c in itertools.combinations(others, 2)
                  if strictly_between(at(b), at(a), at(c))]
        found += [(a,) + three for a in ones for three in itertools.combinations(others, 3)
                  if within(at(a), [at(corner) for corner in three])]
    found += [two + more for two in itertools.combinations(inner, 2) for more in itertools.combinations(outer, 2)
              if cross_inside(*[at(corner) for corner in two + more])]
    return sorted(tuple(sorted(hinges)) for hinges in found)


class MechanismsTest(unittest.TestCase):
    def check(self, bridge):
        found = [(mechanism.hinges, mechanism.numbers) for mechanism in mechanisms(bridge)]
        self.assertEqual(found, wanted_mechanisms(bridge))
        self.assertEqual([hinges for hinges, _ in found], wanted_hinges(bridge))
        return found

    def test_example(self):
        found = self.check(E)
        self.assertEqual(len(found), 14)
        self.assertEqual((found[0][0], found[3][0], found[13][0]), ((0, 1, 2, 5), (0, 3, 4, 7), (3, 4, 6, 7)))
        self.assertEqual(found[3][1], (1, 0, 0, 5, 7, 0, 0, 3))

    def test_all_in_one_line(self):
        self.assertEqual([numbers for _, numbers in self.check(F)], [(3, 2, 0, 1), (0, 1, 3, 2)])

    def test_shared_corners(self):
        found = self.check(SHARED)
        self.assertIn(((1, 2), (0, 1, 1, 0, 0, 0)), found)
        self.assertIn(((3, 4), (0, 0, 0, 1, 1, 0)), found)

    def test_three_in_line(self):
        self.assertEqual(self.check(IN_LINE), [((0, 1, 2), (1, 2, 1, 0))])

    def test_within(self):
        self.assertIn((0, 1, 2, 4), [hinges for hinges, _ in self.check(WITHIN)])

    def test_without_any(self):
        self.assertEqual(self.check(WALL), [])
        self.assertEqual(self.check(Bridge([((k, 0), (k, 1)) for k in range(5)])), [])

    def test_random(self):
        sizes = set()
        for bridge in random_bridges(21, 60, 4, 2) + random_bridges(22, 25, 4, 9):
            sizes.update(len(hinges) for hinges, _ in self.check(bridge))
        self.assertEqual(sizes, {2, 3, 4})

    def test_longest_bridge(self):
        bridge = random_bridge(random.Random(23), 8, 5)
        self.assertGreater(len(self.check(bridge)), 100)

    def test_far_points(self):
        far = 1000000
        self.check(Bridge((((far, -far), (-far, far)), ((far - 1, far), (1 - far, -far)), ((3, 7), (-far, 5)))))

    def test_none_with_five_hinges(self):
        for bridge in random_bridges(24, 8, 3):
            self.assertEqual(wanted_mechanisms(bridge, 6), wanted_mechanisms(bridge))

    def test_balanced_and_lowest(self):
        for bridge in random_bridges(25, 20):
            for mechanism in mechanisms(bridge):
                self.assertIsInstance(mechanism, Weights)
                self.assertTrue(motion_of(bridge, mechanism).is_none)
                self.assertEqual(mechanism.lowest(), mechanism)

    def test_again(self):
        one, other = list(mechanisms(E)), list(mechanisms(E))
        self.assertEqual(one, other)
        ahead = mechanisms(E)
        self.assertEqual(next(ahead), one[0])
        self.assertEqual(list(mechanisms(E)), one)
        self.assertEqual(list(ahead), one[1:])

    def test_own_load_does_not_matter(self):
        self.assertEqual(list(mechanisms(E.with_own(E.own * HUGE))), list(mechanisms(E)))


class MechanismOnTest(unittest.TestCase):
    def test_all_sets(self):
        for bridge in (E, F, SHARED, IN_LINE, WITHIN, WALL):
            wanted = dict(wanted_mechanisms(bridge))
            for size in range(0, 6):
                for corners in itertools.combinations(range(bridge.corner_count), size):
                    found = mechanism_on(bridge, corners)
                    self.assertEqual(None if found is None else found.numbers, wanted.get(corners))

    def test_any_order(self):
        for corners in itertools.permutations((0, 3, 4, 7)):
            self.assertEqual(mechanism_on(E, corners).numbers, (1, 0, 0, 5, 7, 0, 0, 3))
            self.assertEqual(mechanism_on(E, list(corners)).numbers, (1, 0, 0, 5, 7, 0, 0, 3))
        for corners in itertools.permutations((0, 1, 2)):
            self.assertEqual(mechanism_on(IN_LINE, list(corners)).numbers, (1, 2, 1, 0))
        corners = [7, 4, 3, 0]
        mechanism_on(E, corners)
        self.assertEqual(corners, [7, 4, 3, 0])

    def test_other_counts(self):
        for corners in ((), [], (3,), (0, 1, 2, 3, 4), tuple(range(8)), list(range(8))):
            self.assertIsNone(mechanism_on(E, corners))

    def test_bad_corners(self):
        wrong = [None, 3, "03", {0: 1, 3: 1}, {0, 3}, iter((0, 3)), (0, 0), (0, 3, 4, 7, 7), [0, 3, 3, 4],
                 tuple(range(9)), list(range(8)) + [0], (0, 3, 4, 7, 1, 8)]
        for thing in misses(8):
            wrong += [(thing,), (0, 3, 4, thing), [thing, 3, 4, 7], (0, 1, 2, 3, 4, 5, thing)]
        for thing in wrong:
            with self.assertRaises(BadCorners):
                mechanism_on(E, thing)


class IsMechanismTest(unittest.TestCase):
    def test_mechanisms(self):
        for bridge in (E, F, SHARED, IN_LINE, WITHIN):
            for mechanism in mechanisms(bridge):
                self.assertIs(is_mechanism(bridge, mechanism), True)
                self.assertIs(is_mechanism(bridge, Weights(list(mechanism.numbers))), True)
                for times in (0, 2, HUGE):
                    self.assertIs(is_mechanism(bridge, mechanism * times), False)

    def test_sums(self):
        for one, other in itertools.combinations(mechanisms(E), 2):
            self.assertIs(is_mechanism(E, one + other), False)
        for one, other in itertools.combinations(mechanisms(F), 2):
            self.assertIs(is_mechanism(F, one + other), False)

    def test_others(self):
        for numbers in ((0,) * 8, (1,) * 8, (1, 0, 0, 5, 7, 0, 0, 4), (1, 0, 0, 5, 7, 0, 1, 3), (1,) + (0,) * 7):
            self.assertIs(is_mechanism(E, Weights(numbers)), False)

    def test_other_size(self):
        for count in (4, 6, 10):
            with self.assertRaises(OtherSize):
                is_mechanism(E, Weights([0] * count))


class HeaviestWorkTest(unittest.TestCase):
    def test_random(self):
        rng = random.Random(26)
        for bridge in random_bridges(27, 40):
            load = rng.choice((None, random_load(rng, bridge.stones), random_load(rng, bridge.stones, HUGE)))
            works = [(work(bridge, mechanism, load), mechanism) for mechanism in mechanisms(bridge)]
            found = heaviest_work(bridge, load)
            if not works:
                self.assertIsNone(found)
                continue
            most = max(amount for amount, _ in works)
            self.assertIs(type(found), tuple)
            self.assertEqual(found, [pair for pair in works if pair[0] == most][0])

    def test_example(self):
        load = Load.single(3, 0, Force.hanging(8, 4))
        found = heaviest_work(E, load=load)
        self.assertEqual((found[0], found[1].hinges), (16, (0, 3, 4, 7)))
        self.assertLess(heaviest_work(E)[0], 0)

    def test_first_of_several(self):
        found = heaviest_work(E.with_own(Load.none(3)))
        self.assertEqual((found[0], found[1].hinges), (0, (0, 1, 2, 5)))

    def test_none(self):
        self.assertIsNone(heaviest_work(WALL))
        self.assertIsNone(heaviest_work(WALL, Load.none(1)))

    def test_other_size(self):
        for bridge in (E, WALL):
            with self.assertRaises(OtherSize):
                heaviest_work(bridge, Load.none(2))
