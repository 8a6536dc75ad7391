import random
import unittest

from fourhinges.bridge import Bridge
from fourhinges.carts import Cart
from fourhinges.forces import Force
from fourhinges.loads import Load
from fourhinges.mechanisms import mechanisms
from fourhinges.stages import StageFall, stage_fall, stage_fall_fault, stage_steps
from fourhinges.weights import Weights, stone_motions
from fourhinges.yard import Yard, spans
from tests.samples import E, HUGE, arch
from tests.test_yard import check_bad_stages
from tests.yards import all_stages, forces_with, hoist_stands, random_yard, second_stands

Y = Yard(E, (0, 8, 16, 24))
HOIST = Cart("hoist", ((0, 2), (4, 3)), 4)
HOISTED = Yard(E, (0, 8, 16, 24), HOIST)


def told_work(yard, stage, fall):
    """The work of a fall, by the words of the document."""
    forces = forces_with(yard, fall.front, fall.stones)
    span = [one for one in spans(yard, stage) if one[:2] == (fall.first, fall.last)][0]
    first, last, left_firm, right_firm = span
    if left_firm and right_firm:
        motions = stone_motions(yard.bridge, fall.weights)
        return sum(motions[stone].measure(forces[stone]) for stone in range(first, last + 1))
    corner = fall.weights.hinges[0]
    joint = corner // 2
    if left_firm:
        push = -sum(forces[joint:last + 1], Force.none())
    else:
        push = sum(forces[first:joint], Force.none())
    moment = push.about(yard.bridge.point(corner))
    return moment if corner % 2 == 0 else -moment


def right_weights(yard, span):
    """All weights of the whole bridge that may be told for a fall of the span."""
    first, last, left_firm, right_firm = span
    if left_firm and right_firm:
        return [one for one in mechanisms(yard.bridge)
                if all(first <= corner // 2 <= last + 1 for corner in one.hinges)]
    joints = range(first, last + 1) if left_firm else range(first + 1, last + 2)
    count = yard.bridge.corner_count
    return [Weights([int(corner == at) for at in range(count)]) for joint in joints for corner in (2 * joint, 2 * joint + 1)]


class StageFallTest(unittest.TestCase):
    def check(self, yard, stage):
        fall = stage_fall(yard, stage)
        self.assertEqual(fall is None, second_stands(yard, stage))
        if fall is not None:
            self.check_fall(yard, stage, fall)
        return fall

    def check_fall(self, yard, stage, fall):
        self.assertIsInstance(fall, StageFall)
        found = [span for span in spans(yard, stage) if span[:2] == (fall.first, fall.last)]
        self.assertEqual(len(found), 1)
        self.assertIn(fall.weights, right_weights(yard, found[0]))
        if fall.front is None:
            self.assertIsNone(fall.stones)
        else:
            self.assertIsInstance(fall.stones, tuple)
            self.assertIn((fall.front, fall.stones), hoist_stands(yard, stage))
        self.assertEqual(told_work(yard, stage, fall), fall.work)
        self.assertGreater(fall.work, 0)
        self.assertIsNone(stage_fall_fault(yard, stage, fall))

    def check_all(self, seed, count, **settings):
        rng = random.Random(seed)
        kinds = []
        for _ in range(count):
            yard = random_yard(rng, **settings)
            for stage in all_stages(yard.bridge.stones):
                fall = self.check(yard, stage)
                kinds.append("stands" if fall is None else "away" if fall.front is None else "hoist")
        return kinds

    def test_without_a_hoist(self):
        kinds = self.check_all(400, 60, hoist=False)
        self.assertGreater(kinds.count("away"), 50)
        self.assertGreater(kinds.count("stands"), 50)
        self.assertNotIn("hoist", kinds)

    def test_with_a_hoist(self):
        kinds = self.check_all(401, 60)
        self.assertTrue(all(kinds.count(kind) > 40 for kind in ("stands", "away", "hoist")))

    def test_four_wheels_and_five_stones(self):
        rng = random.Random(402)
        kinds = []
        for wheels in (1, 2, 3, 4):
            for stones in (4, 5):
                yard = random_yard(rng, stones, False)
                length = rng.randint(1, 3)
                hoist = Cart("hoist", [(rng.randint(0, length), rng.randint(1, 9)) for _ in range(wheels)], length)
                yard = Yard(yard.bridge.with_own(yard.bridge.own * 3), yard.borders, hoist)
                for stage in rng.sample(all_stages(stones), 40):
                    kinds.append(self.check(yard, stage) is None)
        self.assertGreater(kinds.count(True), 20)
        self.assertGreater(kinds.count(False), 20)

    def test_each_kind_of_span(self):
        rng = random.Random(403)
        kinds = set()
        for _ in range(60):
            yard = random_yard(rng, 3)
            for stage in all_stages(3):
                fall = stage_fall(yard, stage)
                if fall is not None:
                    span = [one for one in spans(yard, stage) if one[:2] == (fall.first, fall.last)][0]
                    kinds.add((span[2:], fall.front is None))
        self.assertEqual(kinds, {(ends, away) for ends in ((True, True), (True, False), (False, True))
                                 for away in (True, False)})

    def test_example(self):
        self.assertIsNotNone(self.check(Y, (1, 0, ())))
        self.assertIsNone(self.check(Y, (1, 0, (0,))))
        fall = stage_fall(Y, (1, 0, ()))
        self.assertEqual((fall.first, fall.last, fall.weights.hinges, fall.work), (0, 0, (0,), 4))

    def test_the_empty_and_the_finished_stage(self):
        rng = random.Random(404)
        for _ in range(40):
            yard = random_yard(rng)
            self.assertIsNone(self.check(yard, (0, 0, ())))
            self.check(yard, (yard.bridge.stones, 0, ()))
            self.check(yard, [yard.bridge.stones, 0, [0]])

    def leaning(self, stone, ends, borders, hoist):
        """A yard whose stone is pushed to the left: its part bears 18 / lever, the lever seen from its left joint."""
        forces = [Force.none() for _ in ends[1:]]
        forces[stone] = Force.acting(-20, -1, (ends[stone] + 2, 1))
        return Yard(Bridge([((x, 0), (x, 2)) for x in ends], Load(forces)), borders, hoist)

    def test_where_a_wheel_may_stand(self):
        for borders, weight, stands in (((0, 4, 8), 4, True), ((0, 4, 8), 5, False), ((0, 2, 8), 9, True),
                                        ((0, 2, 8), 10, False), ((0, 6, 8), 3, True), ((0, 6, 8), 4, False)):
            yard = self.leaning(0, (0, 4, 8), borders, Cart("hoist", ((0, weight),), 0))
            self.assertEqual(self.check(yard, (1, 0, ())) is None, stands)

    def test_a_hoist_that_finds_no_place(self):
        # The heavy wheel gets to the end of the first stone only if the other one is on the ground behind the gap.
        for distance, stands in ((2, True), (3, True), (4, False), (5, False)):
            yard = self.leaning(0, (0, 4, 8), (0, 4, 8), Cart("hoist", ((0, 1), (distance, 5)), 5))
            self.assertEqual(self.check(yard, (1, 0, ())) is None, stands)

    def test_wheels_on_held_stones_work_nothing(self):
        for distance, stands in ((5, True), (4, True), (3, False)):
            hoist = Cart("hoist", ((0, 4), (distance, 100)), 9)
            yard = self.leaning(1, (0, 4, 8, 20), (0, 4, 8, 20), hoist)
            self.assertEqual(self.check(yard, (2, 0, (0,))) is None, stands)
            self.assertIsNone(self.check(yard, (2, 0, (0, 1))))

    def test_wheels_beyond_the_road(self):
        # It falls only with the first wheel at 4 and both others on the ground to the left of the road.
        bridge = Bridge([((x, 0), (x, 2)) for x in (0, 4, 8, 12)])
        hoist = Cart("hoist", ((0, 5), (5, 6), (7, 1)), 7)
        for push, stands in ((19, False), (20, True)):
            own = Load.single(3, 1, Force.acting(push, 0, (6, 1)))
            yard = Yard(bridge.with_own(own), (0, 4, 8, 12), hoist)
            self.assertEqual(self.check(yard, (0, 2, (2,))) is None, stands)
        # Here a wheel on the road beside the span must not be taken for a lighter one beyond the road.
        for push, stands in ((3, False), (4, True)):
            yard = self.leaning(0, (0, 4, 8), (0, 1, 8), Cart("hoist", ((0, 4), (1, 9)), 1))
            yard = Yard(yard.bridge.with_own(Load((Force.acting(-push, 0, (2, 1)), Force.none()))), yard.borders, yard.hoist)
            self.assertEqual(self.check(yard, (1, 0, ())) is None, stands)

    def test_great_numbers(self):
        rng = random.Random(405)
        for _ in range(20):
            yard = random_yard(rng, 2)
            times = 10 ** 29
            great = Yard(yard.bridge.with_own(yard.bridge.own * times), yard.borders, yard.hoist.weighted(times))
            for stage in all_stages(2):
                self.assertEqual(stage_fall(great, stage) is None, stage_fall(yard, stage) is None)

    def test_mirrored_and_moved_yards(self):
        rng = random.Random(406)
        for _ in range(20):
            yard = random_yard(rng)
            stones = yard.bridge.stones
            # A hoist that looks alike from both sides.
            hoist = Cart("hoist", ((0, 2), (1, 1), (2, 2)), 2)
            yard = Yard(yard.bridge, yard.borders, hoist)
            moved = Yard(yard.bridge.moved(7, -3), [border + 7 for border in yard.borders], hoist)
            mirrored = Yard(yard.bridge.mirrored(), [-border for border in yard.borders[::-1]], hoist)
            for left, right, frames in all_stages(stones):
                stands = stage_fall(yard, (left, right, frames)) is None
                self.assertEqual(stage_fall(moved, (left, right, frames)) is None, stands)
                turned = (stones, 0) if left == stones else (right, left)
                frames = tuple(stones - 1 - stone for stone in frames[::-1])
                self.assertEqual(stage_fall(mirrored, turned + (frames,)) is None, stands)

    def test_yards_beyond_the_promised_sizes(self):
        # Each span has a free end: no mechanism is asked for.
        yard = Yard(arch(5), (0, 40, 80, 120, 160, 200), Cart("hoist", ((0, 5), (200, 5)), 200))
        for stage in ((2, 1, ()), (0, 4, ()), (4, 0, (1, 2)), (3, 1, (0, 4))):
            self.check(yard, stage)

    def test_bad_stage(self):
        check_bad_stages(self, lambda stage: stage_fall(Y, stage))
        check_bad_stages(self, lambda stage: stage_fall_fault(Y, stage, StageFall(0, 0, Weights((0,) * 8), 1, None, None)))

    def test_result_keeps_its_arguments(self):
        fall = StageFall(stones=6, front=5, work=4, weights=3, last=2, first=1)
        self.assertEqual((fall.first, fall.last, fall.weights, fall.work, fall.front, fall.stones), (1, 2, 3, 4, 5, 6))
        self.assertEqual(StageFall(1, 2, 3, 4, 5, 6).stones, 6)


class StageFallFaultTest(unittest.TestCase):
    """Of the stage (2, 0, (0,)): its span is the second stone, with a free right end."""
    stage = (2, 0, (0,))

    def judged(self, yard=HOISTED, stage=None, **changed):
        parts = {"first": 1, "last": 1, "weights": self.corner(2), "work": 4, "front": None, "stones": None}
        return stage_fall_fault(yard, self.stage if stage is None else stage, StageFall(**(parts | changed)))

    def corner(self, corner, number=1):
        return Weights([number if at == corner else 0 for at in range(8)])

    def test_right(self):
        self.assertIsNone(self.judged())
        self.assertIsNone(self.judged(Y))
        # The weight hangs at 12: 4 to the right of the inner corner, and of the outer one, which does not bar it.
        self.assertEqual(self.judged(weights=self.corner(3), work=-4), "work")

    def test_told_falls(self):
        rng = random.Random(407)
        for _ in range(40):
            yard = random_yard(rng)
            for stage in all_stages(yard.bridge.stones):
                fall = stage_fall(yard, stage)
                self.assertTrue(fall is None or stage_fall_fault(yard, stage, fall) is None)

    def test_with_the_hoist(self):
        # Its front at 14 on the second stone, and its other wheel at 10, too.
        self.assertIsNone(self.judged(front=14, stones=(1, 1), work=4 + 2 * 6 + 3 * 2))
        self.assertIsNone(self.judged(front=10, stones=(1, 0), work=4 + 2 * 2))
        self.assertIsNone(self.judged(front=0, stones=(None, None)))
        self.assertIsNone(self.judged(front=HUGE, stones=(None, None)))
        self.assertIsNone(self.judged(front=0, stones=(0, None)))
        self.assertIsNone(self.judged(front=12, stones=(1, 0), work=4 + 2 * 4))
        self.assertIsNone(self.judged(front=12, stones=(1, 1), work=4 + 2 * 4))

    def test_span(self):
        for first, last in ((0, 0), (0, 1), (1, 2), (2, 2), (2, 1), (-1, 1), (HUGE, HUGE)):
            self.assertEqual(self.judged(first=first, last=last), "span")
        self.assertEqual(self.judged(stage=(0, 0, ())), "span")
        self.assertEqual(self.judged(stage=(2, 0, (1,))), "span")

    def test_hoist(self):
        for front, stones in ((None, (None, None)), (0, None), (14, ()), (14, (1,)), (14, (1, 1, 1)), (14, (1, 0)),
                              (14, (2, 1)), (14, (None, 1)), (16, (2, 1)), (17, (2, 1)), (17, (None, 1)),
                              (24, (None, 1)), (8, (0, 1)), (-1, (0, None)), (0, (0, 0)), (HUGE, (1, 1))):
            self.assertEqual(self.judged(front=front, stones=stones), "hoist")
        self.assertIsNone(self.judged(front=16, stones=(1, 1), work=4 + 2 * 8 + 3 * 4))
        # In a yard without a hoist it is away.
        for front, stones in ((0, (None, None)), (14, (1, 1)), (14, ()), (0, ()), (None, ()), (0, None)):
            self.assertEqual(self.judged(Y, front=front, stones=stones), "hoist")

    def test_size(self):
        for count in (4, 6, 10):
            self.assertEqual(self.judged(weights=Weights((1,) + (0,) * (count - 1))), "size")

    def test_weights_of_a_free_end(self):
        for corner, word in ((0, "weights"), (1, "weights"), (2, None), (3, "work"), (4, "weights"), (7, "weights")):
            self.assertEqual(self.judged(weights=self.corner(corner)), word)
        for wrong in (self.corner(2, 0), self.corner(2, 2), self.corner(2) + self.corner(3),
                      self.corner(2) + self.corner(4)):
            self.assertEqual(self.judged(weights=wrong), "weights")
        # With the left end free the joints are those behind the first stone of the span.
        bad = {"stage": (0, 2, (2,)), "work": 4}
        for corner, word in ((2, "weights"), (3, "weights"), (4, None), (5, "work"), (6, "weights")):
            self.assertEqual(self.judged(weights=self.corner(corner), **bad), word)

    def test_weights_of_a_firm_span(self):
        heavy = Yard(E.with_own(E.own + Load.single(3, 0, Force.hanging(8, 4))), (0, 8, 16, 24))
        fall = stage_fall(heavy, (3, 0, ()))
        whole = {"yard": heavy, "stage": (3, 0, ()), "first": 0, "last": 2, "work": fall.work}
        self.assertIsNone(self.judged(weights=fall.weights, **whole))
        for wrong in (fall.weights * 2, Weights((0,) * 8), Weights((1,) * 8), self.corner(0)):
            self.assertEqual(self.judged(weights=wrong, **whole), "weights")
        for one in mechanisms(E):
            self.assertIn(self.judged(weights=one, **whole), (None, "work"))
        # A mechanism of the bridge with a hinge beyond the span.
        part = whole | {"stage": (3, 0, (2,)), "last": 1}
        for one in mechanisms(E):
            is_beyond = max(one.hinges) > 5
            self.assertEqual(self.judged(weights=one, **part) == "weights", is_beyond)
        part = whole | {"stage": (3, 0, (0,)), "first": 1}
        for one in mechanisms(E):
            self.assertEqual(self.judged(weights=one, **part) == "weights", min(one.hinges) < 2)

    def test_work(self):
        for wrong in (3, 5, 0, -4, HUGE):
            self.assertEqual(self.judged(work=wrong), "work")
        self.assertEqual(self.judged(front=14, stones=(1, 1), work=4), "work")
        # Told rightly, but not above 0.
        still = Yard(E.with_own(Load.none(3)), (0, 8, 16, 24))
        self.assertEqual(self.judged(still, work=0), "work")

    def test_several_wrong_at_once(self):
        short = Weights((1, 0, 0, 0))
        self.assertEqual(self.judged(first=0, front=0, stones=(), weights=short, work=0), "span")
        self.assertEqual(self.judged(front=0, stones=(), weights=short, work=0), "hoist")
        self.assertEqual(self.judged(weights=short, work=0), "size")
        self.assertEqual(self.judged(weights=self.corner(0), work=0), "weights")


def second_steps(stones, stage, most):
    """The steps by the words of the document."""
    left, right, frames = stage

    def laid(left, right):
        return (stones, 0, frames) if left + right >= stones else (left, right, frames)

    found = []
    if left + right < stones:
        found += [(("lay", "left"), laid(left + 1, right)), (("lay", "right"), laid(left, right + 1))]
    if len(frames) < most:
        found += [(("frame", at), (left, right, tuple(sorted({*frames, at})))) for at in range(stones) if at not in frames]
    found += [(("strike", at), (left, right, tuple(sorted({*frames} - {at})))) for at in sorted(frames)]
    return found


class StageStepsTest(unittest.TestCase):
    def test_every_stage(self):
        for stones in range(1, 6):
            yard = Yard(Bridge([((x, 0), (x, 1)) for x in range(stones + 1)]), tuple(range(stones + 1)))
            stages = all_stages(stones)
            for stage in stages:
                for most in range(stones + 1):
                    found = list(stage_steps(yard, stage, most))
                    self.assertEqual(found, second_steps(stones, stage, most))
                    self.assertTrue(all(after in stages for _, after in found))
                    self.assertTrue(all(isinstance(part, tuple) for pair in found for part in pair + (pair,)))

    def test_examples(self):
        self.assertEqual(list(stage_steps(Y, (1, 1, ()), 0)),
                         [(("lay", "left"), (3, 0, ())), (("lay", "right"), (3, 0, ()))])
        self.assertEqual(list(stage_steps(Y, [3, 0, [0, 2]], 3)),
                         [(("frame", 1), (3, 0, (0, 1, 2))), (("strike", 0), (3, 0, (2,))), (("strike", 2), (3, 0, (0,)))])
        # More frames than there may be: they can only be struck.
        self.assertEqual([step for step, _ in stage_steps(Y, (0, 0, (0, 1)), 1)],
                         [("lay", "left"), ("lay", "right"), ("strike", 0), ("strike", 1)])

    def test_it_does_not_ask_whether_a_stage_stands(self):
        self.assertIn((("lay", "left"), (1, 0, ())), list(stage_steps(Y, (0, 0, ()), 0)))
        self.assertEqual(len(list(stage_steps(Y, (1, 0, ()), 3))), 5)

    def test_bad_stage(self):
        for most in (0, 3):
            check_bad_stages(self, lambda stage: next(stage_steps(Y, stage, most)))
