import random
import unittest

from fourhinges.errors import OtherSize
from fourhinges.mechanisms import mechanism_on, mechanisms
from fourhinges.road import Road
from fourhinges.scenes import Scene
from fourhinges.traffic import Safe, Unsafe, verdict
from fourhinges.trafficjudge import verdict_fault
from fourhinges.weights import Weights
from tests.crowds import tiny_pairs
from tests.roads import R, SINGLE, TURNS
from tests.samples import E, F, HUGE, WALL

HEAVY = E.with_own(E.own * 40)
BOTH = Road((0, 8, 16, 24), (SINGLE, TURNS.turned()))
W = mechanism_on(E, (0, 3, 4, 7))
AT_8 = Scene(((0, (("dray", 8),)),), (((0,),),))


def raised(table, more):
    return tuple((room, place, number + more) for room, place, number in table)


class SafeTest(unittest.TestCase):
    def setUp(self):
        self.papers = verdict(HEAVY, BOTH).papers

    def judged(self, papers):
        return verdict_fault(HEAVY, BOTH, Safe(tuple(papers)))

    def with_tables(self, at, tables):
        return self.papers[:at] + ((self.papers[at][0], tuple(tables)),) + self.papers[at + 1:]

    def test_right(self):
        self.assertIsNone(self.judged(self.papers))
        self.assertIsNone(verdict_fault(WALL, Road((0, 8), (SINGLE,)), Safe(())))

    def test_answers_of_verdict(self):
        rng = random.Random(320)
        for bridge, road in tiny_pairs(rng, 60):
            self.assertIsNone(verdict_fault(bridge, road, verdict(bridge, road)))

    def test_mechanisms(self):
        papers = self.papers
        other = (Weights((1,) * 8), papers[0][1])
        longer = (Weights((1,) * 10), papers[0][1])
        for wrong in ((), papers[1:], papers[:-1], papers + papers[-1:], papers[::-1], papers[:1] + papers,
                      (other,) + papers[1:], (longer,) + papers[1:], (papers[1], papers[0]) + papers[2:],
                      ((papers[0][0] * 2, papers[0][1]),) + papers[1:]):
            self.assertEqual(self.judged(wrong), "mechanisms")
        self.assertEqual(verdict_fault(WALL, Road((0, 8), (SINGLE,)), Safe(papers[:1])), "mechanisms")

    def test_tables(self):
        for at in (0, 5, 13):
            one, two = self.papers[at][1]
            for wrong in ((), (one,), (two,), (one, two, two), (one, two, ())):
                self.assertEqual(self.judged(self.with_tables(at, wrong)), "tables")

    def test_table(self):
        for at in (0, 5, 13):
            one, two = self.papers[at][1]
            for wrong in ((one, one), (two, one), (one[1:], two), (one, two[:-1]), (one, ()), ((), two),
                          (one, raised(two, -1000)), (raised(one, -10 ** 9), two)):
                self.assertEqual(self.judged(self.with_tables(at, wrong)), "table")

    def test_sum(self):
        for at in (0, 5, 13):
            one, two = self.papers[at][1]
            self.assertEqual(self.judged(self.with_tables(at, (raised(one, HUGE), two))), "sum")
            self.assertEqual(self.judged(self.with_tables(at, (one, raised(two, HUGE)))), "sum")
        # Exactly 0 is not above 0.
        four = E.with_own(E.own * 4)
        papers = verdict(four, R).papers
        at = [mechanism for mechanism, _ in papers].index(W)
        for more, word in ((0, None), (1, "sum")):
            tables = (raised(papers[at][1][0], more),)
            self.assertEqual(verdict_fault(four, R, Safe(papers[:at] + ((W, tables),) + papers[at + 1:])), word)

    def test_greater_numbers(self):
        # The papers may show less than they could.
        self.assertIsNone(self.judged(self.with_tables(3, [raised(table, 1) for table in self.papers[3][1]])))

    def test_paper_by_paper(self):
        one, two = self.papers[3][1]
        wrong = self.with_tables(3, (raised(one, HUGE), two))
        for at, word in ((2, "tables"), (4, "sum")):
            self.assertEqual(self.judged(wrong[:at] + ((wrong[at][0], ()),) + wrong[at + 1:]), word)
        # All the words at once.
        for tables, word in (((raised(one, HUGE), raised(two, -HUGE)), "table"), ((raised(one, -HUGE),), "tables")):
            papers = self.with_tables(3, tables)
            self.assertEqual(self.judged(papers), word)
            self.assertEqual(self.judged(papers[1:]), "mechanisms")

    def test_a_safe_answer_for_an_unsafe_road(self):
        rng = random.Random(321)
        papers = tuple((mechanism, ((tuple(),)) * 2) for mechanism in mechanisms(E))
        self.assertEqual(verdict_fault(E, BOTH, Safe(papers)), "table")
        seen = 0
        for bridge, road in tiny_pairs(rng, 40, times=1):
            other = verdict(bridge.with_own(bridge.own * 10 ** 6), road)
            if isinstance(verdict(bridge, road), Unsafe) and isinstance(other, Safe):
                seen += 1
                self.assertIsNotNone(verdict_fault(bridge, road, other))
        self.assertGreater(seen, 5)


class UnsafeTest(unittest.TestCase):
    def judged(self, mechanism=W, work=48, scene=AT_8):
        return verdict_fault(E, R, Unsafe(mechanism, work, scene))

    def test_right(self):
        self.assertIsNone(self.judged())

    def test_not_the_first_mechanism_nor_the_greatest_work(self):
        # Further to the left the cart works less, but still enough.
        at_7 = Scene(((0, (("dray", 7),)),), (((0,),),))
        self.assertIsNone(self.judged(work=40, scene=at_7))
        works = [verdict_fault(E, R, Unsafe(mechanism, 48, AT_8)) for mechanism in mechanisms(E)]
        self.assertEqual(set(works), {None, "work"})

    def test_size(self):
        for count in (4, 6, 10, 18):
            self.assertEqual(self.judged(Weights((1,) * count)), "size")

    def test_mechanism(self):
        for wrong in (W * 2, W * 0, Weights((1,) * 8), Weights((1, 0, 0, 5, 7, 0, 0, 4)), Weights((0, 1) + (0,) * 6)):
            self.assertEqual(self.judged(wrong), "mechanism")

    def test_scene(self):
        for wrong in (Scene((), ()), Scene(AT_8.rows * 2, AT_8.stones * 2), Scene(((1, ()),), ((),)),
                      Scene(AT_8.rows, ()), Scene(AT_8.rows, ((),)), Scene(AT_8.rows, (((2,),),)),
                      Scene(AT_8.rows, (((None,),),)), Scene(((0, (("ox", 8),)),), AT_8.stones),
                      Scene(((0, (("dray", 8), ("dray", -21))),), (((0,), (None,)),))):
            self.assertEqual(self.judged(scene=wrong), "scene")

    def test_work(self):
        for wrong in (47, 49, 0, -48, HUGE):
            self.assertEqual(self.judged(work=wrong), "work")
        # A work that is told rightly, but does not bring the bridge down.
        for x, amount in ((2, 0), (1, -8)):
            scene = Scene(((0, (("dray", x),)),), (((0,),),))
            self.assertEqual(self.judged(work=amount, scene=scene), "work")
        self.assertIsNone(self.judged(work=8, scene=Scene(((0, (("dray", 3),)),), (((0,),),))))

    def test_several_wrong_at_once(self):
        bad = Scene((), ())
        self.assertEqual(self.judged(Weights((1,) * 6), 0, bad), "size")
        self.assertEqual(self.judged(W * 2, 0, bad), "mechanism")
        self.assertEqual(self.judged(W, 0, bad), "scene")

    def test_other_size(self):
        for answer in (Safe(()), Unsafe(W, 48, AT_8)):
            for bridge, road in ((F, R), (E, Road((0, 8), (SINGLE,)))):
                with self.assertRaises(OtherSize):
                    verdict_fault(bridge, road, answer)
