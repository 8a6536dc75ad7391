import collections
import random
import unittest

from fourhinges.bridge import Bridge
from fourhinges.carts import Cart
from fourhinges.forces import Force
from fourhinges.loads import Load
from fourhinges.orders import ClosedLot, Order, build_order, fewest_frames, order_fault
from fourhinges.stages import stage_fall, stage_steps
from fourhinges.yard import Yard
from tests.samples import E, F, arch
from tests.yards import all_stages, random_yard, second_stands

Y = Yard(E, (0, 8, 16, 24))
FIRM = Bridge([((x, 0), (x, 2)) for x in (0, 4, 8)])


def distances(yard, most):
    """How many steps away each stage is that can be reached, by a plain search."""
    stands = {stage: second_stands(yard, stage) for stage in all_stages(yard.bridge.stones)}
    seen, waiting = {(0, 0, ()): 0}, collections.deque([(0, 0, ())])
    while waiting:
        stage = waiting.popleft()
        for _, after in stage_steps(yard, stage, most):
            if after not in seen and stands[after]:
                seen[after] = seen[stage] + 1
                waiting.append(after)
    return seen


def some_yards(seed, count):
    rng = random.Random(seed)
    return [random_yard(rng, hoist=rng.random() < 0.7) for _ in range(count)]


class BuildOrderTest(unittest.TestCase):
    def check(self, yard, most):
        answer = build_order(yard, most)
        seen = distances(yard, most)
        finished = (yard.bridge.stones, 0, ())
        if finished in seen:
            self.assertIsInstance(answer, Order)
            self.assertEqual(len(answer.steps), seen[finished])
            self.assertIsInstance(answer.steps, tuple)
            self.assertTrue(all(isinstance(step, tuple) for step in answer.steps))
        else:
            self.assertIsInstance(answer, ClosedLot)
            self.assertEqual(answer.stages, tuple(sorted(seen)))
        self.assertIsNone(order_fault(yard, most, answer))
        return answer

    def test_random_yards(self):
        kinds = []
        for yard in some_yards(410, 60):
            for most in range(yard.bridge.stones + 1):
                kinds.append(isinstance(self.check(yard, most), Order))
        self.assertGreater(kinds.count(True), 20)
        self.assertGreater(kinds.count(False), 20)

    def test_larger_yards(self):
        rng = random.Random(411)
        for stones in (4, 5):
            yard = random_yard(rng, stones)
            for most in (0, 1, stones):
                self.check(yard, most)
            bridge = arch(stones)
            borders = tuple(range(0, 20 * stones + 1, 20))
            yard = Yard(bridge, borders, Cart("hoist", ((0, 1), (3, 1)), 3))
            for most in range(stones + 1):
                answer = build_order(yard, most)
                self.assertIsNone(order_fault(yard, most, answer))

    def test_example(self):
        self.assertEqual(self.check(Y, 0).stages, ((0, 0, ()),))
        self.assertIsInstance(self.check(Y, 1), ClosedLot)
        self.assertEqual(len(self.check(Y, 2).steps), 7)

    def test_without_loads(self):
        # Every stage stands: the stones are laid one after the other.
        answer = self.check(Yard(FIRM, (0, 4, 8)), 0)
        self.assertEqual([kind for kind, _ in answer.steps], ["lay", "lay"])

    def test_a_finished_stage_that_falls(self):
        falling = Yard(E.with_own(-E.own), (0, 8, 16, 24))
        for most in range(4):
            answer = self.check(falling, most)
            self.assertIsInstance(answer, ClosedLot)
            self.assertEqual((3, 0, (0, 1, 2)) in answer.stages, most == 3)

    def test_results_keep_their_arguments(self):
        self.assertEqual(Order(steps=(1,)).steps, (1,))
        self.assertEqual(ClosedLot(stages=(1,)).stages, (1,))
        self.assertEqual((Order(2).steps, ClosedLot(3).stages), (2, 3))


class OrderFaultTest(unittest.TestCase):
    def setUp(self):
        self.steps = build_order(Y, 2).steps

    def judged(self, steps, most=2, yard=Y):
        return order_fault(yard, most, Order(tuple(steps)))

    def test_right(self):
        self.assertIsNone(self.judged(self.steps))
        self.assertIsNone(self.judged(self.steps, 3))
        # It need not be the fewest steps.
        self.assertIsNone(self.judged((("frame", 2), ("strike", 2)) + self.steps))

    def test_step(self):
        for wrong in (("lay", "up"), ("lay", 0), ("frame", 3), ("frame", "left"), ("strike", 0), ("build", 0), (), "lay",
                      ("frame",), ("frame", 0, 0)):
            self.assertEqual(self.judged((wrong,) + self.steps), "step")
        self.assertEqual(self.judged(self.steps, 1), "step")
        self.assertEqual(self.judged(self.steps + (("lay", "left"),)), "step")
        self.assertEqual(self.judged((("frame", 0), ("frame", 0)) + self.steps), "step")
        self.assertEqual(self.judged(self.steps, 0), "step")

    def test_falls(self):
        self.assertEqual(self.judged((("lay", "left"),)), "falls")
        self.assertEqual(self.judged((("frame", 0), ("lay", "left"), ("strike", 0))), "falls")
        # Step by step: an earlier fall comes before a later step that is none.
        self.assertEqual(self.judged((("lay", "left"), ("lay", "up"))), "falls")
        self.assertEqual(self.judged((("lay", "up"), ("lay", "left"))), "step")
        falling = Yard(E.with_own(-E.own), (0, 8, 16, 24))
        steps = tuple(("frame", at) for at in range(3)) + (("lay", "left"),) * 3 + tuple(("strike", at) for at in range(3))
        self.assertEqual(self.judged(steps, 3, falling), "falls")

    def test_a_span_that_falls_once_other_stones_are_laid(self):
        # The heavy wheel gets to the end of the span only if the other one finds a stone beyond the gap.
        joints = [((x, 0), (x, 2)) for x in (0, 4, 8, 12)]
        right = Bridge(joints, Load((Force.acting(-20, -1, (2, 1)), Force.none(), Force.none())))
        left = Bridge(joints, Load((Force.none(), Force.none(), Force.acting(20, -1, (10, 1)))))
        for bridge, wheels, steps in ((right, ((0, 1), (6, 5)), (("lay", "left"), ("frame", 2), ("lay", "right"))),
                                      (left, ((0, 5), (6, 1)), (("lay", "right"), ("frame", 0), ("lay", "left")))):
            yard = Yard(bridge, (0, 4, 8, 12), Cart("hoist", wheels, 6))
            self.assertEqual([self.judged(steps[:count], 3, yard) for count in range(4)], ["end"] * 3 + ["falls"])

    def test_end(self):
        self.assertEqual(self.judged(()), "end")
        for count in range(len(self.steps)):
            self.assertEqual(self.judged(self.steps[:count]), "end")
        self.assertEqual(self.judged(self.steps + (("frame", 0),)), "end")

    def test_told_orders(self):
        for yard in some_yards(412, 30):
            for most in range(yard.bridge.stones + 1):
                self.assertIsNone(order_fault(yard, most, build_order(yard, most)))


class ClosedLotFaultTest(unittest.TestCase):
    def setUp(self):
        self.stages = build_order(Y, 1).stages

    def judged(self, stages, most=1, yard=Y):
        return order_fault(yard, most, ClosedLot(tuple(stages)))

    def test_right(self):
        self.assertIsNone(self.judged(self.stages))
        self.assertGreater(len(self.stages), 5)
        self.assertIsNone(self.judged(((0, 0, ()),), 0))

    def test_order(self):
        stages = self.stages
        for wrong in (stages[::-1], stages + stages[-1:], stages[:1] + stages, (stages[1], stages[0]) + stages[2:],
                      stages + ((4, 0, ()),), ((-1, 0, ()),) + stages, stages + ((2, 1, ()),), stages + ((3, 0),),
                      stages + ((3, 0, (0, 1)),), stages + ((3, 0, (1, 0)),), stages + ((3, 0, (3,)),), (None,)):
            self.assertEqual(self.judged(wrong), "order")
        # One with more frames than there may be.
        self.assertEqual(self.judged(stages, 0), "order")

    def test_start(self):
        self.assertEqual(self.judged(()), "start")
        self.assertEqual(self.judged(self.stages[1:]), "start")
        self.assertEqual(self.judged(((3, 0, ()),)), "start")

    def test_end(self):
        self.assertEqual(self.judged(self.stages + ((3, 0, ()),)), "end")
        self.assertEqual(self.judged(((0, 0, ()), (1, 0, ()), (3, 0, ()))), "end")

    def test_falls(self):
        self.assertEqual(self.judged(sorted(self.stages + ((1, 0, ()),))), "falls")
        self.assertEqual(self.judged(((0, 0, ()), (1, 0, ())), 0), "falls")
        # Before the stages that are lacking.
        self.assertEqual(self.judged(((0, 0, ()), (1, 0, ()))), "falls")

    def test_open(self):
        for at in range(1, len(self.stages)):
            self.assertEqual(self.judged(self.stages[:at] + self.stages[at + 1:]), "open")
        self.assertEqual(self.judged(((0, 0, ()),)), "open")
        self.assertEqual(self.judged(((0, 0, ()),), 3), "open")
        # The finished stage is the one that is lacking.
        firm = Yard(FIRM, (0, 4, 8))
        self.assertEqual(self.judged(((0, 0, ()), (0, 1, ()), (1, 0, ())), 0, firm), "open")


class FewestFramesTest(unittest.TestCase):
    def check(self, yard):
        found = fewest_frames(yard)
        orders = [isinstance(build_order(yard, most), Order) for most in range(yard.bridge.stones + 1)]
        self.assertEqual(found, orders.index(True) if True in orders else None)
        # An order with so many frames is one with more of them, too.
        self.assertEqual(orders, sorted(orders))
        self.assertEqual(found is None, stage_fall(yard, (yard.bridge.stones, 0, ())) is not None)
        return found

    def test_random_yards(self):
        kinds = [self.check(yard) for yard in some_yards(413, 100)]
        for kind in (None, 0, 1, 2):
            self.assertIn(kind, kinds)

    def test_larger_yards(self):
        rng = random.Random(414)
        for stones in (4, 5):
            for _ in range(6):
                self.check(random_yard(rng, stones))
        self.assertEqual(self.check(Yard(arch(5), (0, 20, 40, 60, 80, 100))), 2)

    def test_examples(self):
        self.assertEqual(self.check(Y), 2)
        self.assertEqual(self.check(Yard(FIRM, (0, 4, 8))), 0)
        self.assertIsNone(self.check(Yard(E.with_own(-E.own), (0, 8, 16, 24))))
        self.assertEqual(self.check(Yard(F, (0, 1))), 0)
        # A hoist that the finished bridge does not bear.
        self.assertIsNone(self.check(Yard(E, (0, 8, 16, 24), Cart("hoist", ((0, 8),), 0))))
        self.assertIsNotNone(self.check(Yard(E, (0, 8, 16, 24), Cart("hoist", ((0, 1),), 0))))

    def test_mirrored_and_moved_yards(self):
        rng = random.Random(415)
        hoist = Cart("hoist", ((0, 2), (1, 1), (2, 2)), 2)
        for _ in range(25):
            yard = random_yard(rng)
            yard = Yard(yard.bridge, yard.borders, hoist)
            found = fewest_frames(yard)
            moved = Yard(yard.bridge.moved(-5, 8), [border - 5 for border in yard.borders], hoist)
            mirrored = Yard(yard.bridge.mirrored(), [-border for border in yard.borders[::-1]], hoist)
            self.assertEqual((fewest_frames(moved), fewest_frames(mirrored)), (found, found))

    def test_spans_of_a_bridge_that_bears_the_hoist(self):
        # Every span with two firm ends stands in every stage.
        rng = random.Random(416)
        seen = 0
        for _ in range(40):
            yard = random_yard(rng)
            if stage_fall(yard, (yard.bridge.stones, 0, ())) is None:
                for stage in all_stages(yard.bridge.stones):
                    fall = stage_fall(yard, stage)
                    seen += 1
                    self.assertTrue(fall is None or len(fall.weights.hinges) == 1)
        self.assertGreater(seen, 100)
