import random
import unittest

from fourhinges.errors import BadMix, BadPalette
from fourhinges.forces import Force
from fourhinges.loads import Load
from fourhinges.mechanisms import mechanisms
from fourhinges.palettes import mix_load, work_rows
from fourhinges.relief import NoRelief, Relief, relief, relief_fault
from fourhinges.stands import bears
from fourhinges.weights import work
from tests.samples import E, HUGE, WALL, borne_load, random_load, small_bridges
from tests.seconds import can_be_met
from tests.test_linear import product
from tests.test_palettes import FIRST, MIDDLE, THIRD, WRONG_MIXES, random_palette

HEAVY = E.with_own(E.own + FIRST * 8)


class ReliefTest(unittest.TestCase):
    def check(self, bridge, palette, highs):
        answer = relief(bridge, palette, highs)
        if isinstance(answer, Relief):
            self.check_relief(bridge, palette, highs, answer)
        else:
            self.check_no_relief(bridge, palette, highs, answer)
        self.assertIsNone(relief_fault(bridge, palette, highs, answer))
        return isinstance(answer, Relief)

    def check_relief(self, bridge, palette, highs, answer):
        self.assertIsInstance(answer.mix, tuple)
        self.assertEqual(len(answer.mix), len(palette))
        self.assertGreaterEqual(answer.parts, 1)
        for number, high in zip(answer.mix, highs):
            self.assertTrue(0 <= number <= high * answer.parts)
        self.assertTrue(bears(bridge.with_own(bridge.own * answer.parts), mix_load(palette, answer.mix)))

    def check_no_relief(self, bridge, palette, highs, answer):
        self.assertIsInstance(answer, NoRelief)
        self.assertIsInstance(answer.shares, tuple)
        found = list(mechanisms(bridge))
        self.assertEqual(len(answer.shares), len(found))
        self.assertTrue(all(share >= 0 for share in answer.shares))
        total = product(answer.shares, [work(bridge, mechanism) for mechanism in found])
        for high, column in zip(highs, zip(*work_rows(bridge, palette))):
            total += high * min(0, product(answer.shares, column))
        self.assertGreater(total, 0)

    def test_example(self):
        self.assertFalse(self.check(HEAVY, (THIRD,), (1,)))
        self.assertTrue(self.check(HEAVY, (THIRD,), (2,)))

    def test_highs_0(self):
        self.assertTrue(self.check(E, (FIRST, THIRD), (0, 0)))
        self.assertFalse(self.check(HEAVY, (FIRST, THIRD), (0, 0)))
        self.assertEqual(relief(E, [FIRST], [0]).mix, (0,))

    def test_great_highs(self):
        self.assertTrue(self.check(HEAVY, (FIRST, THIRD), (HUGE, HUGE)))
        self.assertFalse(self.check(HEAVY, (FIRST,), (HUGE,)))
        self.assertTrue(self.check(E.with_own(E.own + FIRST * HUGE), (THIRD, MIDDLE), (HUGE, HUGE)))
        self.assertFalse(self.check(E.with_own(E.own + FIRST * (9 * HUGE)), (THIRD, MIDDLE), (HUGE, HUGE)))

    def test_no_mechanism(self):
        self.assertTrue(self.check(WALL, [Load((Force.hanging(1, 1),))], (5,)))
        self.assertTrue(self.check(WALL, [Load((Force.hanging(1, 1),))], (0,)))

    def test_random(self):
        rng = random.Random(140)
        kinds = []
        for bridge in small_bridges(141, 150):
            palette = random_palette(rng, bridge.stones, rng.randint(1, 4), 5)
            kinds.append(self.check(bridge, palette, [rng.choice((0, 1, 3, 50)) for _ in palette]))
        self.assertGreater(kinds.count(True), 20)
        self.assertGreater(kinds.count(False), 20)

    def test_against_a_second_way(self):
        rng = random.Random(142)
        for bridge in small_bridges(143, 40):
            palette = random_palette(rng, bridge.stones, 2, 5)
            highs = [rng.randint(0, 6) for _ in palette]
            demands = [(row, -work(bridge, mechanism))
                       for mechanism, row in zip(mechanisms(bridge), work_rows(bridge, palette))]
            demands += [((1, 0), highs[0]), ((0, 1), highs[1]), ((-1, 0), 0), ((0, -1), 0)]
            self.assertEqual(self.check(bridge, palette, highs), can_be_met(demands))

    def test_a_mix_that_saves(self):
        rng = random.Random(144)
        for bridge in small_bridges(145, 30):
            mix = [rng.randint(0, 3), rng.randint(0, 3), 1]
            palette = random_palette(rng, bridge.stones, 2, 5)
            palette.append(borne_load(rng, bridge) - mix_load(palette, mix[:2]))
            self.assertTrue(self.check(bridge, palette, mix))

    def test_numbers_of_thirty_figures(self):
        rng = random.Random(146)
        for bridge in small_bridges(147, 10):
            bridge = bridge.with_own(random_load(rng, bridge.stones, 10 ** 30))
            palette = random_palette(rng, bridge.stones, 3, 10 ** 30)
            self.check(bridge, palette, [rng.randint(0, 3) for _ in palette])

    def test_sixteen_and_seventeen_loads(self):
        palette = [FIRST, THIRD] * 8
        self.assertTrue(self.check(HEAVY, palette, [1] * 16))
        for call in (relief, lambda *parts: relief_fault(*parts, Relief((), 1))):
            for things in (palette + [FIRST], [None] * 17, [Load.none(1)] * 17):
                with self.assertRaises(BadPalette) as caught:
                    call(HEAVY, things, [1] * 17)
                self.assertEqual(caught.exception.what, "count")


class ReliefFaultTest(unittest.TestCase):
    def judged(self, answer, highs=(2, 2)):
        return relief_fault(HEAVY, (FIRST, THIRD), highs, answer)

    def test_relief(self):
        self.assertIsNone(self.judged(Relief((0, 2), 1)))
        self.assertIsNone(self.judged(Relief((0, 4), 3)))
        for mix in ((), (2,), (0, 2, 0)):
            self.assertEqual(self.judged(Relief(mix, 1)), "count")
        self.assertEqual(self.judged(Relief((-1, 2), 1)), "amount")
        self.assertEqual(self.judged(Relief((0, 2), 0)), "parts")
        self.assertEqual(self.judged(Relief((0, 2), -1)), "parts")
        self.assertEqual(self.judged(Relief((0, 3), 1)), "high")
        self.assertEqual(self.judged(Relief((0, 4), 2), (2, 1)), "high")
        self.assertEqual(self.judged(Relief((0, 1), 1)), "mechanism")
        self.assertEqual(self.judged(Relief((0, 0), 1)), "mechanism")
        self.assertEqual(self.judged(Relief((2, 2), 1)), None)
        self.assertEqual(self.judged(Relief((1, 4), 3)), "mechanism")

    def test_relief_with_several_faults(self):
        self.assertEqual(self.judged(Relief((-1,), 0)), "count")
        self.assertEqual(self.judged(Relief((-1, 9), 0)), "amount")
        self.assertEqual(self.judged(Relief((9, 9), 0)), "parts")
        self.assertEqual(self.judged(Relief((9, 0), 1)), "high")

    def test_no_relief(self):
        highs = (2, 1)
        right = relief(HEAVY, (FIRST, THIRD), highs)
        self.assertIsNone(self.judged(right, highs))
        self.assertIsNone(self.judged(NoRelief(tuple(5 * share for share in right.shares)), highs))
        self.assertEqual(self.judged(NoRelief(right.shares[1:]), highs), "count")
        self.assertEqual(self.judged(NoRelief(right.shares + (0,)), highs), "count")
        self.assertEqual(self.judged(NoRelief((-1,) + right.shares[1:]), highs), "amount")
        self.assertEqual(self.judged(NoRelief((0,) * 14), highs), "sum")
        self.assertEqual(self.judged(NoRelief((-1,) * 13), highs), "count")
        self.assertEqual(self.judged(right), "sum")
        # The shares of the single mechanism that works: 16 under the own load, minus 12 for one of the third.
        single = tuple(int(mechanism.hinges == (0, 3, 4, 7)) for mechanism in mechanisms(E))
        self.assertIsNone(self.judged(NoRelief(single), (2, 1)))
        self.assertEqual(self.judged(NoRelief(single), (2, 2)), "sum")

    def test_errors_come_first(self):
        for answer in (Relief((), 0), NoRelief(())):
            with self.assertRaises(BadPalette):
                relief_fault(HEAVY, (), None, answer)
            for mix in WRONG_MIXES:
                with self.assertRaises(BadMix):
                    relief_fault(HEAVY, (FIRST, THIRD), mix, answer)

    def test_results_keep_their_arguments(self):
        answer = Relief(parts=2, mix=(1,))
        self.assertEqual((answer.mix, answer.parts), ((1,), 2))
        self.assertEqual(Relief((1,), 2).parts, 2)
        self.assertEqual((NoRelief((1,)).shares, NoRelief(shares=(2,)).shares), ((1,), (2,)))
