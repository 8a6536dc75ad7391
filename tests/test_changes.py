import itertools
import random
import unittest

from fourhinges.bridge import Bridge
from fourhinges.changes import Ballast, Change, Rod, Shut, Spaced, changed
from fourhinges.errors import BadChange, NoCart, NoStone, OtherSize
from fourhinges.forces import Force
from fourhinges.loads import Load
from fourhinges.road import Road
from tests.roads import R, SINGLE, TURNS, random_road
from tests.samples import E, HUGE, NO_WHOLE, WALL, random_bridge

BOTH = Road((0, 8, 16, 24), (TURNS, SINGLE))
NO_POINT = (None, 3, "ab", (), (1,), (1, 2, 3), (1, None), (True, 1), ("1", 2), (1000001, 0), (0, -1000001), {0: 1, 1: 2})

# Two changes of each kind that differ in each attribute.
KINDS = ((Ballast, (1, 2, 3), (2, -2, -3)), (Rod, (0, 1, (0, 0), (3, 4), 5), (1, 2, (1, 1), (2, 2), 6)),
         (Shut, ("dray",), ("van",)), (Spaced, (3,), (4,)))
ONE_OF_EACH = (Ballast(1, 2, 3), Rod(0, 1, (0, 0), (3, 4), 5), Shut("dray"), Spaced(3))


def random_change(rng, bridge, road):
    kind = rng.randrange(4)
    stone = rng.randrange(bridge.stones)
    if kind == 0 or (kind == 1 and bridge.stones == 1):
        return Ballast(stone, rng.randint(-9, 9), rng.choice((-3, -1, 2, 9)))
    if kind == 1:
        other = rng.choice([at for at in range(bridge.stones) if at != stone])
        return Rod(stone, other, (rng.randint(-5, 0), rng.randint(-5, 5)), (rng.randint(1, 5), rng.randint(-5, 5)),
                   rng.randint(1, 9))
    return Shut(rng.choice(road.names)) if kind == 2 else Spaced(rng.randint(1, 3))


class ChangeCase(unittest.TestCase):
    def refused(self, what, kind, *parts):
        with self.subTest(parts=parts), self.assertRaises(BadChange) as caught:
            kind(*parts)
        self.assertEqual(caught.exception.what, what)


class AllKindsTest(ChangeCase):
    def test_kinds(self):
        for change in ONE_OF_EACH:
            self.assertIsInstance(change, Change)

    def test_each_kind_has_its_own_methods(self):
        for kind in (Change, Ballast, Rod, Shut, Spaced):
            self.assertIn("applied", vars(kind))
            self.assertIn("__eq__", vars(kind))

    def test_equality(self):
        for kind, one, other in KINDS:
            self.assertTrue(kind(*one) == kind(*one))
            self.assertFalse(kind(*one) != kind(*one))
            for at in range(len(one)):
                mixed = one[:at] + (other[at],) + one[at + 1:]
                if kind is Rod and mixed[0] == mixed[1]:
                    mixed = (7,) + mixed[1:]
                self.assertFalse(kind(*one) == kind(*mixed))
                self.assertTrue(kind(*one) != kind(*mixed))
            for thing in (one, None, 3, one[0]):
                self.assertFalse(kind(*one) == thing)
        for one, other in itertools.permutations(ONE_OF_EACH, 2):
            self.assertFalse(one == other)
            self.assertTrue(one != other)

    def test_other_size_comes_first(self):
        for change in (Ballast(7, 0, 1), Rod(7, 6, (0, 0), (1, 1), 1), Shut("bus"), Spaced(1)):
            for bridge, road in ((E, Road((0, 8), (SINGLE,))), (WALL, R)):
                with self.assertRaises(OtherSize):
                    change.applied(bridge, road)
                with self.assertRaises(OtherSize):
                    changed(bridge, road, [change])

    def test_nothing_changes(self):
        for change in ONE_OF_EACH:
            bridge, road = Bridge(E.joints, E.own), Road(BOTH.borders, BOTH.rules)
            change.applied(bridge, road)
            self.assertEqual((bridge, road), (E, BOTH))


class BallastTest(ChangeCase):
    def test_attributes(self):
        change = Ballast(weight=-5, x=3, stone=2)
        self.assertEqual((change.stone, change.x, change.weight), (2, 3, -5))

    def test_bounds(self):
        for stone in (0, 7):
            for x in (-1000000, 0, 1000000):
                for weight in (-10 ** 30, -1, 1, 10 ** 30):
                    change = Ballast(stone, x, weight)
                    self.assertEqual((change.stone, change.x, change.weight), (stone, x, weight))

    def test_words(self):
        for stone in (-1, 8, HUGE) + NO_WHOLE:
            self.refused("stone", Ballast, stone, None, 0)
            self.refused("stone", Ballast, stone, 1, 1)
        for x in (-1000001, 1000001, HUGE) + NO_WHOLE:
            self.refused("x", Ballast, 0, x, 0)
            self.refused("x", Ballast, 0, x, 1)
        for weight in (0, 10 ** 30 + 1, -10 ** 30 - 1) + NO_WHOLE:
            self.refused("weight", Ballast, 0, 0, weight)

    def test_applied(self):
        bridge, road = Ballast(1, 12, 5).applied(E, R)
        self.assertEqual(bridge, E.with_own(E.own + Load.single(3, 1, Force.hanging(5, 12))))
        self.assertEqual(road, R)
        bridge, _ = Ballast(1, 12, -5).applied(bridge, road)
        self.assertEqual(bridge, E)
        bridge, _ = Ballast(2, -1000000, -10 ** 30).applied(E, R)
        self.assertEqual(bridge.own[2], Force(0, -1 + 10 ** 30, -20 - 10 ** 36))

    def test_no_stone(self):
        for stone in range(3, 8):
            with self.assertRaises(NoStone) as caught:
                Ballast(stone, 0, 1).applied(E, R)
            self.assertEqual(caught.exception.stone, stone)
        self.assertEqual(len(Ballast(2, 0, 1).applied(E, R)), 2)


class RodTest(ChangeCase):
    def test_attributes(self):
        change = Rod(pull=5, end=[3, 4], start=[0, 1], other=1, one=2)
        self.assertEqual((change.one, change.other, change.start, change.end, change.pull), (2, 1, (0, 1), (3, 4), 5))
        self.assertIsInstance(change.start, tuple)
        self.assertIsInstance(change.end, tuple)
        start = [0, 0]
        change = Rod(0, 1, start, (3, 4), 5)
        start[0] = 9
        self.assertEqual(change.start, (0, 0))
        self.assertEqual(Rod(0, 1, [0, 0], [3, 4], 5), Rod(0, 1, (0, 0), (3, 4), 5))

    def test_bounds(self):
        for one, other in ((0, 7), (7, 0)):
            for pull in (1, 10 ** 30):
                change = Rod(one, other, (-1000000, 1000000), (1000000, -1000000), pull)
                self.assertEqual((change.one, change.other, change.pull), (one, other, pull))

    def test_words(self):
        for one in (-1, 8, HUGE) + NO_WHOLE:
            self.refused("one", Rod, one, one, None, None, 0)
            self.refused("one", Rod, one, 1, (0, 0), (1, 1), 1)
        for other in (-1, 8, HUGE, 0) + NO_WHOLE:
            self.refused("other", Rod, 0, other, None, None, 0)
            self.refused("other", Rod, 0, other, (0, 0), (1, 1), 1)
        for start in NO_POINT:
            self.refused("start", Rod, 0, 1, start, None, 0)
            self.refused("start", Rod, 0, 1, start, (1, 1), 1)
        for end in NO_POINT + ((5, 6), [5, 6]):
            self.refused("end", Rod, 0, 1, (5, 6), end, 0)
            self.refused("end", Rod, 0, 1, [5, 6], end, 1)
        for pull in (0, -1, 10 ** 30 + 1) + NO_WHOLE:
            self.refused("pull", Rod, 0, 1, (0, 0), (1, 1), pull)

    def test_applied(self):
        bridge, road = Rod(0, 2, (1, 2), (4, 6), 10).applied(E, R)
        self.assertEqual(road, R)
        self.assertEqual(bridge.joints, E.joints)
        self.assertEqual(bridge.own[0], E.own[0] + Force.acting(30, 40, (1, 2)))
        self.assertEqual(bridge.own[1], E.own[1])
        self.assertEqual(bridge.own[2], E.own[2] + Force.acting(-30, -40, (4, 6)))
        # The forces add up to none, and the same rod from its other end is the same.
        self.assertEqual(bridge.own.before(3), E.own.before(3))
        self.assertEqual(Rod(2, 0, (4, 6), (1, 2), 10).applied(E, R)[0], bridge)

    def test_no_stone(self):
        for one, other, wrong in ((3, 0, 3), (0, 3, 3), (7, 6, 7), (6, 7, 6), (2, 5, 5)):
            with self.assertRaises(NoStone) as caught:
                Rod(one, other, (0, 0), (1, 1), 1).applied(E, R)
            self.assertEqual(caught.exception.stone, wrong)


class ShutTest(ChangeCase):
    def test_attributes(self):
        for name in ("a", "abcdefghijkl", "van"):
            self.assertEqual(Shut(name=name).name, name)

    def test_words(self):
        for name in ("", "abcdefghijklm", "Van", "a1", "a b", "\u00e4", "a\n", None, 3, True, b"van", ("a",), ["a"]):
            self.refused("name", Shut, name)

    def test_applied(self):
        bridge, road = Shut("van").applied(E, BOTH)
        self.assertEqual(bridge, E)
        self.assertEqual(road, BOTH.only(("gig", "dray")))
        self.assertEqual(road.names, BOTH.names)
        # Once more nothing comes of it.
        self.assertEqual(Shut("van").applied(E, road), (E, road))

    def test_all_lanes(self):
        road = Road((0, 8, 16, 24), (SINGLE, SINGLE.turned()))
        self.assertEqual(Shut("dray").applied(E, road)[1], road.only(()))

    def test_no_cart(self):
        for name in ("bus", "v", "vans"):
            with self.assertRaises(NoCart) as caught:
                Shut(name).applied(E, BOTH)
            self.assertEqual(caught.exception.name, name)


class SpacedTest(ChangeCase):
    def test_attributes(self):
        for extra in (1, 50, 100):
            self.assertEqual(Spaced(extra=extra).extra, extra)

    def test_words(self):
        for extra in (0, -1, 101, HUGE) + NO_WHOLE:
            self.refused("extra", Spaced, extra)

    def test_applied(self):
        self.assertEqual(Spaced(100).applied(E, BOTH), (E, BOTH.spaced(100)))
        self.assertEqual(Spaced(1).applied(E, BOTH.only(())), (E, BOTH.only(())))


class ChangedTest(unittest.TestCase):
    def test_one_after_the_other(self):
        rng = random.Random(420)
        for _ in range(60):
            bridge = random_bridge(rng, rng.randint(1, 4))
            road = random_road(rng, bridge.stones, rng.randint(1, 2))
            changes = [random_change(rng, bridge, road) for _ in range(rng.randint(0, 5))]
            wanted = (bridge, road)
            for change in changes:
                wanted = change.applied(*wanted)
            found = changed(bridge, road, changes)
            self.assertIsInstance(found, tuple)
            self.assertEqual(found, wanted)
            self.assertEqual(changed(bridge, road, tuple(changes)), wanted)
            # Their order does not matter.
            rng.shuffle(changes)
            self.assertEqual(changed(bridge, road, changes), wanted)

    def test_no_changes(self):
        for nothing in ((), []):
            self.assertEqual(changed(E, R, nothing), (E, R))

    def test_bad_changes(self):
        change = Spaced(1)
        for wrong in (None, change, 3, "ab", {0: change}, {change.extra}, (3,), [None], (change, E), [change, Spaced],
                      (change, (change,)), range(0)):
            with self.assertRaises(BadChange) as caught:
                changed(E, R, wrong)
            self.assertEqual(caught.exception.what, "changes")
        # Before the errors of those that cannot be applied.
        with self.assertRaises(BadChange):
            changed(E, R, [Shut("bus"), None])
        with self.assertRaises(OtherSize):
            changed(WALL, R, None)

    def test_a_change_that_fails_in_the_middle(self):
        first = (Ballast(0, 0, 1), Spaced(2))
        with self.assertRaises(NoStone) as caught:
            changed(E, R, first + (Ballast(3, 0, 1), Shut("bus")))
        self.assertEqual(caught.exception.stone, 3)
        with self.assertRaises(NoCart) as caught:
            changed(E, R, first + (Shut("bus"), Ballast(3, 0, 1)))
        self.assertEqual(caught.exception.name, "bus")
