import itertools
import random
import unittest

from fourhinges.changes import Ballast, Rod, Shut, Spaced, changed
from fourhinges.errors import BadChange, NoCart, NoStone, OtherSize
from fourhinges.forces import Force
from fourhinges.loads import Load
from fourhinges.mends import Mend, least_mends, mends_fault
from fourhinges.road import Road
from fourhinges.traffic import Safe, Unsafe, is_safe, verdict
from fourhinges.trafficjudge import verdict_fault
from tests.crowds import tiny_pair
from tests.roads import R, SINGLE
from tests.samples import E, WALL
from tests.test_changes import random_change

QUIET = Road((0, 8, 16, 24), (SINGLE.only(()),))
HEAVY = E.with_own(E.own + Load.single(3, 0, Force.hanging(8, 4)))
POOL = (Ballast(2, 20, 2), Ballast(0, 4, 3), Ballast(2, 20, 1))


def subsets(indexes):
    """All sets, smaller ones first."""
    return [some for size in range(len(indexes) + 1) for some in itertools.combinations(indexes, size)]


def random_pool(rng, bridge, road, most=4):
    pool = [random_change(rng, bridge, road) for _ in range(rng.randint(0, most))]
    return pool + pool[:rng.randint(0, 1)]


def some_pools(seed, count):
    rng = random.Random(seed)
    found = []
    for _ in range(count):
        bridge, road = tiny_pair(rng, times=rng.choice((1, 3, 30)), stones=rng.randint(2, 3), lanes=1)
        found.append((bridge, road, random_pool(rng, bridge, road)))
    return found


class LeastMendsTest(unittest.TestCase):
    def check(self, bridge, road, pool):
        found = least_mends(bridge, road, pool)
        safe = [some for some in subsets(range(len(pool)))
                if is_safe(*changed(bridge, road, [pool[at] for at in some]))]
        wanted = [some for some in safe if not any(set(other) < set(some) for other in safe)]
        self.assertIsInstance(found, tuple)
        self.assertEqual([mend.indexes for mend in found], wanted)
        for mend in found:
            self.assertIsInstance(mend, Mend)
            self.assertIsInstance(mend.breaches, tuple)
            self.assertEqual([part for part, _ in mend.breaches], subsets(mend.indexes)[:-1])
            for breach in mend.breaches:
                self.assertIsInstance(breach, tuple)
                part, answer = breach
                self.assertIsInstance(answer, Unsafe)
                pair = changed(bridge, road, [pool[at] for at in part])
                self.assertIsNone(verdict_fault(*pair, answer))
        self.assertIsNone(mends_fault(bridge, road, pool, found))
        return wanted

    def test_example(self):
        self.assertEqual(self.check(HEAVY, QUIET, POOL), [(0,)])
        self.assertEqual(least_mends(HEAVY, QUIET, POOL)[0].breaches[0][1].work, 16)

    def test_random_pools(self):
        seen = set()
        for bridge, road, pool in some_pools(430, 150):
            wanted = self.check(bridge, road, pool)
            seen.add(len(wanted))
            seen.update(("size", len(some)) for some in wanted)
        self.assertLessEqual({0, 1, 2, ("size", 0), ("size", 1), ("size", 2)}, seen)

    def test_several_mends(self):
        # Each of three ballasts alone is too little, any two of them are enough; or a rod, or a heavy one.
        one = Ballast(2, 20, 1)
        pool = [one, one, Ballast(0, 4, -8), one, Ballast(2, 20, 2)]
        self.assertEqual(self.check(HEAVY, QUIET, pool), [(2,), (4,), (0, 1), (0, 3), (1, 3)])

    def test_counts_of_changes(self):
        one = Ballast(2, 20, 1)
        self.assertEqual(self.check(HEAVY, QUIET, ()), [])
        self.assertEqual(self.check(E, QUIET, []), [()])
        self.assertEqual(self.check(HEAVY, QUIET, [one] * 6), list(itertools.combinations(range(6), 2)))
        for call in (least_mends, lambda *parts: mends_fault(*parts, ())):
            with self.assertRaises(BadChange) as caught:
                call(HEAVY, QUIET, [one] * 7)
            self.assertEqual(caught.exception.what, "pool")

    def test_a_safe_road(self):
        found = least_mends(E, QUIET, POOL)
        self.assertEqual([(mend.indexes, mend.breaches) for mend in found], [((), ())])
        self.check(E, QUIET, (Ballast(0, 4, 10 ** 9), Spaced(1)))

    def test_a_road_that_nothing_saves(self):
        self.assertEqual(self.check(E.with_own(-E.own), R, (Spaced(1), Shut("dray"), Ballast(1, 12, 1))), [])

    def test_shut_and_spaced(self):
        two = Road((0, 8, 16, 24), (SINGLE,))
        self.assertEqual(self.check(E, two, (Spaced(5), Shut("dray"), Spaced(9))), [(1,)])

    def test_errors(self):
        change = Spaced(1)
        for call in (least_mends, lambda *parts: mends_fault(*parts, None)):
            for pool in (None, change, 3, "ab", {0: change}, [3], (change, None), [change] * 6 + [None], range(0)):
                with self.assertRaises(BadChange) as caught:
                    call(E, R, pool)
                self.assertEqual(caught.exception.what, "pool")
                with self.assertRaises(OtherSize):
                    call(WALL, R, pool)
            with self.assertRaises(NoStone):
                call(E, R, (change, Ballast(3, 0, 1), Shut("bus")))
            with self.assertRaises(NoCart):
                call(E, R, (change, Shut("bus"), Ballast(3, 0, 1)))
            # Also if the road is safe already.
            with self.assertRaises(NoStone):
                call(E, QUIET, (Rod(0, 3, (0, 0), (1, 1), 1),))

    def test_result_keeps_its_arguments(self):
        mend = Mend(breaches=(2,), indexes=(1,))
        self.assertEqual((mend.indexes, mend.breaches), ((1,), (2,)))
        self.assertEqual(Mend(1, 2).breaches, 2)


class MendsFaultTest(unittest.TestCase):
    pool = (Ballast(2, 20, 1), Ballast(2, 20, 1), Ballast(0, 4, 3), Ballast(0, 4, -8))

    def setUp(self):
        # (3,), (0, 1) and (0, 1, 2) with its further weight falls again.
        self.mends = least_mends(HEAVY, QUIET, self.pool)

    def judged(self, mends, pool=None, bridge=HEAVY):
        return mends_fault(bridge, QUIET, self.pool if pool is None else pool, tuple(mends))

    def test_right(self):
        self.assertEqual([mend.indexes for mend in self.mends], [(3,), (0, 1)])
        self.assertIsNone(self.judged(self.mends))
        self.assertIsNone(self.judged((Mend((), ()),), bridge=E))
        self.assertIsNone(self.judged((), ()))

    def test_told_mends(self):
        for bridge, road, pool in some_pools(431, 40):
            self.assertIsNone(mends_fault(bridge, road, pool, least_mends(bridge, road, pool)))

    def test_order(self):
        one, two = self.mends
        for wrong in ((two, one), (one, one), (one, two, two), (Mend((4,), ()),), (Mend((-1,), ()),),
                      (Mend((1, 0), two.breaches),), (one, Mend((0, 0), two.breaches)), (one, two, Mend((), ())),
                      (Mend((0, 9), ()),), (one, two, Mend((0,), ())), (one, Mend((0, 2, 1), ()))):
            self.assertEqual(self.judged(wrong), "order")

    def test_unsafe(self):
        one, two = self.mends
        for indexes in ((), (0,), (2,)):
            self.assertEqual(self.judged((Mend(indexes, ()), one)), "unsafe")
        self.assertEqual(self.judged((one, two, Mend((0, 1, 2), ()))), "unsafe")

    def test_breaches(self):
        one, two = self.mends
        for wrong in ((), two.breaches[1:], two.breaches[:-1], two.breaches[::-1], two.breaches + two.breaches[-1:],
                      two.breaches + (((0, 1), two.breaches[0][1]),), (((5,), two.breaches[0][1]),) + two.breaches[1:]):
            self.assertEqual(self.judged((one, Mend((0, 1), wrong))), "breaches")
        self.assertEqual(self.judged((Mend((3,), ()), two)), "breaches")
        self.assertEqual(self.judged((Mend((), one.breaches),), bridge=E), "breaches")

    def test_breach(self):
        one, two = self.mends
        good = two.breaches
        bad = Unsafe(good[0][1].mechanism, good[0][1].work + 1, good[0][1].scene)
        for answer in (bad, verdict(E, QUIET), Safe(()), None, "Unsafe"):
            for at in range(3):
                wrong = good[:at] + ((good[at][0], answer),) + good[at + 1:]
                self.assertEqual(self.judged((one, Mend((0, 1), wrong))), "breach")
        # The breach of another part.
        wrong = (good[0], (good[1][0], good[0][1]), good[2])
        self.assertEqual(self.judged((one, Mend((0, 1), wrong))), "breach")

    def test_a_mend_that_is_not_least(self):
        # Its proper parts would have to be unsafe, and one of them is not.
        three = Mend((0, 3), tuple((part, self.mends[1].breaches[0][1]) for part in ((), (0,), (3,))))
        self.assertEqual(self.judged((self.mends[0], self.mends[1], three)), "breach")

    def test_missing(self):
        one, two = self.mends
        for wrong in ((), (one,), (two,)):
            self.assertEqual(self.judged(wrong), "missing")
        self.assertEqual(self.judged((), (), E), "missing")

    def test_several_wrong_at_once(self):
        one, two = self.mends
        bad = Unsafe(two.breaches[0][1].mechanism, 1, two.breaches[0][1].scene)
        breach = Mend((0, 1), tuple((part, bad) for part, _ in two.breaches))
        self.assertEqual(self.judged((breach,)), "breach")
        self.assertEqual(self.judged((Mend((0, 1), breach.breaches[1:]),)), "breaches")
        self.assertEqual(self.judged((Mend((0,), breach.breaches),)), "unsafe")
        self.assertEqual(self.judged((Mend((0,), ()), Mend((7,), ()))), "order")
        # Mend by mend.
        self.assertEqual(self.judged((Mend((3,), ()), Mend((0, 1, 2), ()))), "breaches")
        self.assertEqual(self.judged((Mend((2,), ()), breach)), "unsafe")
