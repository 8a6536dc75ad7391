import random
import unittest

from fourhinges.errors import OtherSize
from fourhinges.heaviest import potentials_fault, table_most
from fourhinges.limitedtraffic import LimitedSafe, LimitedUnsafe, limited_fault, limited_verdict
from fourhinges.limits import Limit, LimitedFalls, limited_mechanisms, limited_stands
from fourhinges.mechanisms import mechanism_on
from fourhinges.motions import Motion
from fourhinges.road import Road
from fourhinges.scenes import Scene, scene_fault, scene_load
from fourhinges.stands import Stands
from fourhinges.traffic import is_safe, verdict
from fourhinges.weights import Weights, work
from tests.crowds import greatest_work, scenes_of_few, some_scenes, tiny_pair, tiny_pairs
from tests.roads import R, SINGLE, TURNS
from tests.samples import E, F, HUGE, WALL
from tests.test_limits import ACROSS, check_bad_limits, random_limits

W = mechanism_on(E, (0, 3, 4, 7))
HEAVY = E.with_own(E.own * 40)
BOTH = Road((0, 8, 16, 24), (SINGLE, TURNS.turned()))
PUSH = (Limit(ACROSS, 60), Limit(-ACROSS, 0))


def allowed(limits, shares):
    return sum(share * limit.most for share, limit in zip(shares, limits))


class LimitedVerdictTest(unittest.TestCase):
    def check(self, bridge, road, limits):
        answer = limited_verdict(bridge, road, limits)
        wanted = [(weights, shares, greatest_work(bridge, road, weights))
                  for weights, shares in limited_mechanisms(bridge, limits)]
        above = [one for one in wanted if one[2] > allowed(limits, one[1])]
        if above:
            self.assertIsInstance(answer, LimitedUnsafe)
            self.assertEqual((answer.weights, answer.shares, answer.work), above[0])
            self.assertIsNone(scene_fault(road, answer.scene))
            load = scene_load(road, answer.scene)
            self.assertEqual(work(bridge, answer.weights, load), answer.work)
            self.assertIsInstance(limited_stands(bridge, limits, load), LimitedFalls)
        else:
            self.check_papers(bridge, road, limits, answer, wanted)
        self.assertIsNone(limited_fault(bridge, road, limits, answer))
        return not above

    def check_papers(self, bridge, road, limits, answer, wanted):
        self.assertIsInstance(answer, LimitedSafe)
        self.assertEqual([paper[:2] for paper in answer.papers], [one[:2] for one in wanted])
        for thing in (answer.papers,) + answer.papers:
            self.assertIsInstance(thing, tuple)
        for weights, shares, tables in answer.papers:
            self.assertEqual(len(tables), len(road.rules))
            for lane, table in enumerate(tables):
                self.assertIsNone(potentials_fault(bridge, road, lane, weights, table))
            total = work(bridge, weights) + sum(table_most(table) for table in tables)
            self.assertLessEqual(total, allowed(limits, shares))

    def test_tiny_roads(self):
        rng = random.Random(340)
        kinds = []
        for bridge, road in tiny_pairs(rng, 60, times=30):
            limits = [Limit(one.motion, 40 * one.most) for one in random_limits(rng, bridge, rng.randint(0, 2))]
            kinds.append(self.check(bridge, road, limits))
        self.assertGreater(kinds.count(True), 10)
        self.assertGreater(kinds.count(False), 5)

    def test_scene_by_scene(self):
        rng = random.Random(341)
        kinds = []
        for _ in range(60):
            bridge, road = tiny_pair(rng, times=rng.choice((3, 10)), lanes=1, gap=2)
            limits = [Limit(one.motion, 5 * one.most) for one in random_limits(rng, bridge, rng.randint(1, 2))]
            scenes = scenes_of_few(road, 300)
            if not scenes:
                continue
            stood = [isinstance(limited_stands(bridge, limits, scene_load(road, scene)), Stands) for scene in scenes]
            kinds.append(isinstance(limited_verdict(bridge, road, limits), LimitedSafe))
            self.assertEqual(kinds[-1], all(stood))
        self.assertGreater(kinds.count(True), 3)
        self.assertGreater(kinds.count(False), 3)

    def test_scenes_of_a_safe_road(self):
        rng = random.Random(342)
        self.assertIsInstance(limited_verdict(HEAVY, BOTH, PUSH), LimitedSafe)
        for scene in some_scenes(rng, BOTH, 40, 2):
            self.assertIsInstance(limited_stands(HEAVY, PUSH, scene_load(BOTH, scene)), Stands)

    def test_no_limits(self):
        rng = random.Random(343)
        for bridge, road in tiny_pairs(rng, 20) + [(E, R), (HEAVY, BOTH), (WALL, Road((0, 1), (SINGLE,)))]:
            answer, other = limited_verdict(bridge, road, ()), verdict(bridge, road)
            self.assertEqual(isinstance(answer, LimitedSafe), is_safe(bridge, road))
            if isinstance(answer, LimitedUnsafe):
                self.assertEqual((answer.weights, answer.work), (other.mechanism, other.work))

    def test_motions_that_are_none_and_opposite(self):
        empty = Weights((0,) * 8)
        for most in (-1, 0):
            answer = limited_verdict(HEAVY, BOTH, [Limit(Motion.none(), most)])
            self.assertEqual(isinstance(answer, LimitedSafe), most == 0)
            if most < 0:
                self.assertEqual((answer.weights, answer.shares, answer.work), (empty, (1,), 0))
        answer = limited_verdict(HEAVY, BOTH, [Limit(ACROSS, 50), Limit(-ACROSS, -51)])
        self.assertIsInstance(answer, LimitedUnsafe)
        self.assertIsNone(limited_fault(HEAVY, BOTH, [Limit(ACROSS, 50), Limit(-ACROSS, -51)], answer))

    def test_errors(self):
        answer = limited_verdict(HEAVY, BOTH, PUSH)
        check_bad_limits(self, lambda limits: limited_verdict(HEAVY, BOTH, limits))
        check_bad_limits(self, lambda limits: limited_fault(HEAVY, BOTH, limits, answer))
        for limits in (PUSH, (), None, (3,)):
            for bridge in (F, WALL):
                with self.assertRaises(OtherSize):
                    limited_verdict(bridge, BOTH, limits)
                with self.assertRaises(OtherSize):
                    limited_fault(bridge, BOTH, limits, answer)

    def test_results_keep_their_arguments(self):
        self.assertEqual(LimitedSafe(papers=(1,)).papers, (1,))
        answer = LimitedUnsafe(scene=4, work=3, shares=(2,), weights=1)
        self.assertEqual((answer.weights, answer.shares, answer.work, answer.scene), (1, (2,), 3, 4))
        self.assertEqual(LimitedUnsafe(1, 2, 3, 4).scene, 4)


def raised(table, more):
    return tuple((room, place, number + more) for room, place, number in table)


class LimitedSafeFaultTest(unittest.TestCase):
    def setUp(self):
        self.papers = limited_verdict(HEAVY, BOTH, PUSH).papers

    def judged(self, papers):
        return limited_fault(HEAVY, BOTH, PUSH, LimitedSafe(tuple(papers)))

    def changed(self, at, weights=None, shares=None, tables=None):
        old = self.papers[at]
        new = tuple(other if mine is None else mine for mine, other in zip((weights, shares, tables), old))
        return self.papers[:at] + (new,) + self.papers[at + 1:]

    def test_right(self):
        self.assertIsNone(self.judged(self.papers))
        tables = tuple(raised(table, 1) for table in self.papers[0][2])
        self.assertIsNone(self.judged(self.changed(0, tables=tables)))

    def test_mechanisms(self):
        papers = self.papers
        for wrong in ((), papers[1:], papers[:-1], papers[::-1], papers + papers[-1:],
                      self.changed(0, weights=Weights((1,) * 8)), self.changed(0, weights=Weights((1,) * 4)),
                      self.changed(0, shares=(1, 1)), self.changed(0, shares=()), self.changed(1, shares=(0, 0, 0)),
                      self.changed(2, weights=papers[2][0] * 2)):
            self.assertEqual(self.judged(wrong), "mechanisms")

    def test_the_other_words(self):
        for at in (0, len(self.papers) // 2, len(self.papers) - 1):
            one, two = self.papers[at][2]
            for tables, word in (((), "tables"), ((one,), "tables"), ((one, two, two), "tables"),
                                 ((two, one), "table"), ((one, ()), "table"), ((one, raised(two, -HUGE)), "table"),
                                 ((raised(one, HUGE), two), "sum"), ((one, raised(two, HUGE)), "sum"),
                                 ((raised(one, HUGE), raised(two, -HUGE)), "table")):
                self.assertEqual(self.judged(self.changed(at, tables=tables)), word)
                self.assertEqual(self.judged(self.changed(at, tables=tables)[:-1] if at < len(self.papers) - 1
                                             else self.changed(at, tables=tables)[1:]), "mechanisms")

    def test_sum_against_the_allowance(self):
        for at, (weights, shares, (one, two)) in enumerate(self.papers):
            rest = (allowed(PUSH, shares) - work(HEAVY, weights) - table_most(one) - table_most(two))
            self.assertGreaterEqual(rest, 0)
            for more, word in ((0, None), (1, "sum")):
                self.assertEqual(self.judged(self.changed(at, tables=(raised(one, rest + more), two))), word)

    def test_paper_by_paper(self):
        one, two = self.papers[2][2]
        papers = self.changed(2, tables=(raised(one, HUGE), two))
        for at, word in ((1, "tables"), (3, "sum")):
            wrong = papers[:at] + (papers[at][:2] + ((),),) + papers[at + 1:]
            self.assertEqual(self.judged(wrong), word)


class LimitedUnsafeFaultTest(unittest.TestCase):
    limits = (Limit(ACROSS, 2),)

    def setUp(self):
        self.answer = limited_verdict(E, R, self.limits)

    def judged(self, **changed):
        parts = {"weights": self.answer.weights, "shares": self.answer.shares, "work": self.answer.work,
                 "scene": self.answer.scene}
        return limited_fault(E, R, self.limits, LimitedUnsafe(**(parts | changed)))

    def test_right(self):
        self.assertIsNone(self.judged())
        at_8 = Scene(((0, (("dray", 8),)),), (((0,),),))
        self.assertIsNone(self.judged(weights=W, shares=(0,), work=48, scene=at_8))
        # It need not be least.
        self.assertIsNone(self.judged(weights=W * 3, shares=(0,), work=144, scene=at_8))

    def test_size(self):
        for shares in ((), (0, 0), (0, 0, 0)):
            self.assertEqual(self.judged(shares=shares), "size")
        for count in (4, 6, 10):
            self.assertEqual(self.judged(weights=Weights((0,) * count)), "size")

    def test_mechanism(self):
        # Its weights alone give the left ground the motion none: any share is one too many.
        self.assertEqual(self.judged(weights=W, shares=(1,)), "mechanism")
        self.assertEqual(self.judged(weights=W, shares=(-1,)), "mechanism")
        self.assertEqual(self.judged(weights=Weights((1,) * 8), shares=(1,)), "mechanism")
        none = (Limit(Motion.none(), 2),)
        for share, word in ((-1, "mechanism"), (0, None), (1, None)):
            at_8 = Scene(((0, (("dray", 8),)),), (((0,),),))
            self.assertEqual(limited_fault(E, R, none, LimitedUnsafe(W, (share,), 48, at_8)), word)

    def test_one_share_below_0(self):
        at_8 = Scene(((0, (("dray", 8),)),), (((0,),),))
        twice = (Limit(ACROSS, 2), Limit(ACROSS, 2))
        for shares, word in (((0, 0), None), ((1, -1), "mechanism"), ((-1, 1), "mechanism")):
            self.assertEqual(limited_fault(E, R, twice, LimitedUnsafe(W, shares, 48, at_8)), word)

    def test_the_sum_of_the_motions(self):
        for weights, shares in limited_mechanisms(E, self.limits):
            if shares == (0,):
                continue
            amount = work(E, weights)
            scene = Scene(((0, ()),), ((),))
            word = None if amount > 2 * shares[0] else "work"
            self.assertEqual(self.judged(weights=weights, shares=shares, work=amount, scene=scene), word)
            for more in (1, -1):
                self.assertEqual(self.judged(weights=weights, shares=(shares[0] + more,), work=amount, scene=scene),
                                 "mechanism")

    def test_scene(self):
        for wrong in (Scene((), ()), Scene(((0, (("dray", 8),)),), ((),)), Scene(((2, ()),), ((),))):
            self.assertEqual(self.judged(scene=wrong), "scene")

    def test_work(self):
        for wrong in (self.answer.work + 1, self.answer.work - 1, 0, HUGE):
            self.assertEqual(self.judged(work=wrong), "work")
        quiet = Scene(((0, ()),), ((),))
        self.assertEqual(self.judged(weights=Weights((0,) * 8), shares=(0,), work=0, scene=quiet), "work")
        # The allowance itself is not above the allowance.
        for most, word in ((47, None), (48, "work"), (49, "work")):
            limits = (Limit(Motion.none(), most),)
            at_8 = Scene(((0, (("dray", 8),)),), (((0,),),))
            self.assertEqual(limited_fault(E, R, limits, LimitedUnsafe(W, (1,), 48, at_8)), word)

    def test_several_wrong_at_once(self):
        bad = Scene((), ())
        self.assertEqual(self.judged(weights=Weights((1,) * 6), shares=(-1,), work=0, scene=bad), "size")
        self.assertEqual(self.judged(weights=W, shares=(-1,), work=0, scene=bad), "mechanism")
        self.assertEqual(self.judged(work=0, scene=bad), "scene")
