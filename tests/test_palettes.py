import itertools
import random
import unittest
from fractions import Fraction

from fourhinges.bridge import Bridge
from fourhinges.errors import BadMix, BadPalette, OtherSize
from fourhinges.forces import Force
from fourhinges.loads import Load
from fourhinges.mechanisms import mechanism_on, mechanisms
from fourhinges.needed import compare_bridges, needed
from fourhinges.palettes import (Excess, FactorRange, bears_mix, factor_range, first_excess, mix_load, wheel_palette,
                                 work_row, work_rows)
from fourhinges.relief import NoRelief, Relief, relief, relief_fault
from fourhinges.stands import Stands, bears, stands
from fourhinges.weights import Weights, extra_work, work
from tests.samples import (E, F, HUGE, NO_WHOLE, WALL, arch, borne_load, numbers_of, random_load, random_weights,
                           small_bridges)

FIRST = Load.single(3, 0, Force.hanging(1, 4))
MIDDLE = Load.single(3, 1, Force.hanging(1, 12))
THIRD = Load.single(3, 2, Force.hanging(1, 20))
W = mechanism_on(E, (0, 3, 4, 7))

WRONG_PALETTES = [
    ("count", ()), ("count", []), ("count", [FIRST] * 18), ("count", [7] * 18), ("count", None), ("count", FIRST),
    ("count", {0: FIRST}), ("count", "ab"), ("count", 5),
    ("load", [7]), ("load", (FIRST, None)), ("load", (FIRST, FIRST.forces)), ("load", [Force.none()]),
    ("load", (Load.none(2), None)), ("load", (Load.none(2), FIRST, "ab")),
    ("size", (FIRST, Load.none(2))), ("size", (Load.none(4), FIRST)), ("size", [FIRST] * 16 + [Load.none(1)])]

WRONG_MIXES = [(), [], (1,), (1, 2, 3), None, 5, "12", {0: 1, 1: 2}, (1, -1), (-HUGE, 0), range(2)]
WRONG_MIXES += [(1, thing) for thing in NO_WHOLE]


def random_palette(rng, stones, count, size=9):
    return [random_load(rng, stones, size) for _ in range(count)]


class PaletteTest(unittest.TestCase):
    def each_function(self, palette, mix):
        """Each function with a palette, called for E; those with a mix get the mix."""
        return {
            "mix_load": lambda: mix_load(palette, mix),
            "work_row": lambda: work_row(E, W, palette),
            "work_rows": lambda: work_rows(E, palette),
            "bears_mix": lambda: bears_mix(E, palette, mix),
            "first_excess": lambda: first_excess(E, palette, mix, mix),
            "needed": lambda: needed(E, palette),
            "relief": lambda: relief(E, palette, mix),
            "relief_fault": lambda: relief_fault(E, palette, mix, Relief((), 0)),
            "compare_bridges": lambda: compare_bridges(E, E, palette, [FIRST]),
            "compare_bridges by the other": lambda: compare_bridges(E, E, [FIRST], palette),
        }

    def test_bad_palettes_come_before_bad_mixes(self):
        for what, palette in WRONG_PALETTES:
            for mix in (None, (-1,)):
                for name, call in self.each_function(palette, mix).items():
                    with self.subTest(name, palette=palette), self.assertRaises(BadPalette) as caught:
                        call()
                    # A palette of relief has at most 16 loads.
                    is_long = isinstance(palette, list) and len(palette) == 17 and name.startswith("relief")
                    self.assertEqual(caught.exception.what, "count" if is_long else what)

    def test_palettes_of_another_size_than_the_bridge(self):
        palette = [Load.none(2), Load.none(2)]
        for name, call in self.each_function(palette, (0, 0)).items():
            if name != "mix_load":
                with self.subTest(name), self.assertRaises(BadPalette) as caught:
                    call()
                self.assertEqual(caught.exception.what, "size")
        self.assertEqual(mix_load(palette, (1, 2)), Load.none(2))

    def test_bad_mixes(self):
        for mix in WRONG_MIXES:
            for name, call in self.each_function([FIRST, THIRD], mix).items():
                if name in ("mix_load", "bears_mix", "first_excess", "relief", "relief_fault"):
                    with self.subTest(name, mix=mix), self.assertRaises(BadMix):
                        call()

    def test_counts(self):
        rng = random.Random(100)
        for count in (1, 17):
            palette = random_palette(rng, 3, count)
            for make in (list, tuple):
                self.assertEqual(len(work_row(E, W, make(palette))), count)
                self.assertEqual({len(row) for row in work_rows(E, make(palette))}, {count})
                self.assertIsInstance(mix_load(make(palette), make([1] * count)), Load)


class MixTest(unittest.TestCase):
    def test_mix_load(self):
        self.assertEqual(mix_load((FIRST, THIRD), (8, 2)), FIRST * 8 + THIRD * 2)
        self.assertEqual(mix_load([FIRST], [0]), Load.none(3))
        self.assertEqual(mix_load([FIRST, FIRST], [HUGE, 1]), FIRST * (HUGE + 1))
        rng = random.Random(101)
        palette = random_palette(rng, 4, 17, 10 ** 30)
        mix = [rng.randint(0, 10 ** 30) for _ in palette]
        wanted = [tuple(sum(number * part[at] for part, number in zip(parts, mix)) for at in range(3))
                  for parts in zip(*[numbers_of(load) for load in palette])]
        self.assertEqual(numbers_of(mix_load(palette, mix)), wanted)

    def test_wheel_palette(self):
        palette = wheel_palette(E, [0, 8, 16, 24])
        self.assertIsInstance(palette, tuple)
        self.assertEqual(list(palette), [E.own] + [
            Load.single(3, stone, Force.hanging(1, x)) for stone, x in
            ((0, 0), (0, 8), (1, 8), (1, 16), (2, 16), (2, 24))])
        great = (-HUGE, 0, 5, HUGE)
        self.assertEqual(wheel_palette(E, great)[1], Load.single(3, 0, Force.hanging(1, -HUGE)))
        self.assertEqual(len(wheel_palette(arch(8), range_tuple(9))), 17)
        self.assertEqual(len(wheel_palette(WALL, (0, 1))), 3)

    def test_a_wheel_between_borders(self):
        palette = wheel_palette(E, (0, 8, 16, 24))
        for x in range(9):
            mix = (0, 8 - x, x, 0, 0, 0, 0)
            self.assertEqual(mix_load(palette, mix), Load.single(3, 0, Force.hanging(8, x)))

    def test_wrong_borders(self):
        wrong = [(), (0, 8, 16), (0, 8, 16, 24, 32), None, 5, "abcd", {0: 1, 8: 1, 16: 1, 24: 1}, (0, 8, 8, 24),
                 (0, 8, 7, 24), (24, 16, 8, 0), (0, 0, 8, 16), (0, 8, 24, 24), range(4)]
        wrong += [(0, 8, 16, thing) for thing in NO_WHOLE] + [(thing, 8, 16, 24) for thing in NO_WHOLE]
        for borders in wrong:
            with self.subTest(borders=borders), self.assertRaises(BadPalette) as caught:
                wheel_palette(E, borders)
            self.assertEqual(caught.exception.what, "borders")

    def test_work_row(self):
        self.assertEqual(work_row(E, W, (FIRST, THIRD)), (4, -12))
        rng = random.Random(102)
        for bridge in small_bridges(103, 30):
            palette = random_palette(rng, bridge.stones, 4)
            weights = random_weights(rng, bridge)
            row = work_row(bridge, weights, palette)
            self.assertIsInstance(row, tuple)
            self.assertEqual(row, tuple(extra_work(bridge, weights, load) for load in palette))
            rows = work_rows(bridge, palette)
            self.assertIsInstance(rows, tuple)
            self.assertEqual(rows, tuple(work_row(bridge, mechanism, palette) for mechanism in mechanisms(bridge)))

    def test_work_row_of_another_size(self):
        with self.assertRaises(OtherSize):
            work_row(E, Weights((1, 0, 0, 1)), (FIRST,))
        with self.assertRaises(OtherSize):
            work_row(E, Weights((1, 0, 0, 1)), ())

    def test_bears_mix(self):
        rng = random.Random(104)
        kinds = []
        for bridge in small_bridges(105, 60) + [E] * 10:
            bare = bridge.with_own(Load.none(bridge.stones))
            palette = random_palette(rng, bridge.stones, 3) + [borne_load(rng, bare)]
            for mix in ([0, 0, 0, 1], [rng.randint(0, 3) for _ in palette], [0, 0, 1, 9], [0] * 4):
                wanted = isinstance(stands(bare, mix_load(palette, mix)), Stands)
                self.assertIs(bears_mix(bridge, palette, mix), wanted)
                kinds.append(wanted)
        self.assertGreater(kinds.count(False), 15)
        self.assertGreater(kinds.count(True), 60)
        self.assertIs(bears_mix(E, [FIRST, E.own], (8, 1)), False)
        self.assertIs(bears_mix(E, [FIRST, E.own], (8, 2)), True)


def range_tuple(count):
    return tuple(range(count))


class FactorRangeTest(unittest.TestCase):
    def bounds(self, bridge, load):
        """Each mechanism with its own work and its work under the load alone."""
        return [(one, work(bridge, one), extra_work(bridge, one, load)) for one in mechanisms(bridge)]

    def check(self, bridge, load):
        answer = factor_range(bridge, load)
        bounds = self.bounds(bridge, load)
        lows = [Fraction(own, -extra) for _, own, extra in bounds if extra < 0]
        highs = [Fraction(-own, extra) for _, own, extra in bounds if extra > 0]
        low = max([Fraction(0)] + lows)
        if (any(own > 0 and extra == 0 for _, own, extra in bounds)) or (highs and min(highs) < low):
            self.assertIsNone(answer)
            return "none"
        self.assertIsInstance(answer, FactorRange)
        self.assertEqual(answer.low, (low.numerator, low.denominator))
        barring = [one for one, own, extra in bounds if extra < 0 and own + low * extra == 0]
        self.assertEqual(answer.low_by, barring[0] if low > 0 else None)
        if not highs:
            self.assertEqual((answer.high, answer.high_by), (None, None))
        else:
            high = min(highs)
            self.assertEqual(answer.high, (high.numerator, high.denominator))
            self.assertEqual(answer.high_by, [one for one, own, extra in bounds
                                              if extra > 0 and own + high * extra == 0][0])
        self.check_borne(bridge, load, answer)
        return ("low" if low > 0 else "zero") + ("" if highs else " endless")

    def check_borne(self, bridge, load, answer):
        """A bridge with its own load times bottom bears top times the load exactly within the range."""
        tops = [answer.low] + ([answer.high] if answer.high is not None else [(HUGE, 1)])
        for top, bottom in tops:
            self.assertTrue(bears(bridge.with_own(bridge.own * bottom), load * top))
        below, above = tops
        times = 10 ** 9
        if below[0] > 0:
            self.assertFalse(bears(bridge.with_own(bridge.own * (below[1] * times)), load * (below[0] * times - 1)))
        if answer.high is not None:
            self.assertFalse(bears(bridge.with_own(bridge.own * (above[1] * times)), load * (above[0] * times + 1)))

    def test_example(self):
        self.assertEqual(self.check(E, FIRST), "zero")
        answer = factor_range(E, FIRST)
        self.assertEqual((answer.low, answer.high, answer.low_by, answer.high_by), ((0, 1), (4, 1), None, W))

    def test_none(self):
        heavy = E.with_own(E.own + FIRST * 8)
        self.assertEqual(self.check(heavy, FIRST), "none")
        self.assertEqual(self.check(heavy, Load.none(3)), "none")
        self.assertIsNone(factor_range(heavy, FIRST))

    def test_low_and_high(self):
        heavy = E.with_own(E.own + FIRST * 8)
        self.assertEqual(self.check(heavy, THIRD), "low")
        answer = factor_range(heavy, THIRD)
        self.assertEqual((answer.low, answer.low_by), ((4, 3), W))
        self.assertIsNotNone(answer.high)

    def test_no_greatest(self):
        self.assertEqual(self.check(E, Load.none(3)), "zero endless")
        self.assertEqual(self.check(E, E.own), "zero endless")
        self.assertEqual(self.check(WALL, Load((Force.hanging(5, 5),))), "zero endless")
        heavy = E.with_own(E.own + FIRST * 8)
        self.assertEqual(self.check(heavy, E.own), "low endless")

    def test_a_range_of_one_factor(self):
        rng = random.Random(106)
        for bridge in (E, F, arch(3)):
            for mechanism in list(mechanisms(bridge))[:4]:
                load = random_load(rng, bridge.stones)
                self.check(bridge.with_own(-load * 3), load)
                answer = factor_range(bridge.with_own(-load * 3), load)
                if not (bears(bridge.with_own(load)) or bears(bridge.with_own(-load))):
                    self.assertEqual((answer.low, answer.high), ((3, 1), (3, 1)))

    def test_high_zero(self):
        bare = E.with_own(Load.none(3))
        self.assertEqual(self.check(bare, FIRST), "zero")
        self.assertEqual(factor_range(bare, FIRST).high, (0, 1))

    def test_random_loads(self):
        rng = random.Random(107)
        kinds = set()
        for bridge in small_bridges(108, 120):
            if rng.random() < 0.5:
                bridge = bridge.with_own(bridge.total(borne_load(rng, bridge)))
            kinds.add(self.check(bridge, random_load(rng, bridge.stones, rng.choice((9, 10 ** 30)))))
        self.assertEqual(kinds, {"none", "zero", "zero endless", "low", "low endless"})

    def test_other_size(self):
        for stones in (1, 2, 4):
            with self.assertRaises(OtherSize):
                factor_range(E, Load.none(stones))

    def test_result_keeps_its_arguments(self):
        answer = FactorRange(high_by=4, low_by=3, high=2, low=1)
        self.assertEqual((answer.low, answer.high, answer.low_by, answer.high_by), (1, 2, 3, 4))
        self.assertEqual(FactorRange(1, 2, 3, 4).high_by, 4)


class FirstExcessTest(unittest.TestCase):
    def check(self, bridge, palette, lows, highs):
        answer = first_excess(bridge, palette, lows, highs)
        mixes = list(itertools.product(*[range(low, high + 1) for low, high in zip(lows, highs)]))
        for mechanism in mechanisms(bridge):
            works = {mix: work(bridge, mechanism, mix_load(palette, mix)) for mix in mixes}
            if max(works.values()) > 0:
                row = work_row(bridge, mechanism, palette)
                mix = tuple(high if number > 0 else low for number, low, high in zip(row, lows, highs))
                self.assertEqual((answer.mechanism, answer.mix, answer.work), (mechanism, mix, works[mix]))
                self.assertEqual(answer.work, max(works.values()))
                return False
        self.assertIsNone(answer)
        return True

    def test_example(self):
        self.assertTrue(self.check(E, (FIRST, MIDDLE, THIRD), (0, 0, 0), (2, 0, 2)))
        self.assertFalse(self.check(E, (FIRST, THIRD), (0, 0), (5, 2)))
        answer = first_excess(E, (FIRST, THIRD), [0, 1], [8, 2])
        self.assertEqual((answer.mechanism, answer.mix, answer.work), (W, (8, 1), 4))

    def test_random(self):
        rng = random.Random(109)
        kinds = []
        for bridge in small_bridges(110, 80):
            bridge = bridge.with_own(bridge.total(borne_load(rng, bridge, 12)))
            palette = random_palette(rng, bridge.stones, rng.randint(1, 3), 4)
            lows = [rng.randint(0, 2) for _ in palette]
            kinds.append(self.check(bridge, palette, lows, [low + rng.randint(0, 2) for low in lows]))
        self.assertGreater(kinds.count(True), 10)
        self.assertGreater(kinds.count(False), 10)

    def test_great_numbers(self):
        answer = first_excess(E, (FIRST, THIRD), (0, 0), (HUGE, HUGE))
        self.assertEqual(answer.work, work(E, answer.mechanism, mix_load((FIRST, THIRD), answer.mix)))

    def test_bad_mixes(self):
        for lows, highs in (((1, 0), (0, 5)), ((0, 6), (1, 5)), ((HUGE, 0), (HUGE - 1, 5))):
            with self.assertRaises(BadMix):
                first_excess(E, (FIRST, THIRD), lows, highs)
        for mix in WRONG_MIXES:
            for lows, highs in (((0, 0), mix), (mix, (0, 0)), (mix, (HUGE, HUGE))):
                with self.subTest(mix=mix), self.assertRaises(BadMix):
                    first_excess(E, (FIRST, THIRD), lows, highs)

    def test_equal_bounds(self):
        self.assertIsNone(first_excess(E, [FIRST], [4], [4]))
        self.assertEqual(first_excess(E, [FIRST], [5], [5]).mix, (5,))

    def test_result_keeps_its_arguments(self):
        answer = Excess(work=3, mix=(2,), mechanism=1)
        self.assertEqual((answer.mechanism, answer.mix, answer.work), (1, (2,), 3))
        self.assertEqual(Excess(1, (2,), 3).work, 3)


class WorksOf1Test(unittest.TestCase):
    """On F the first load works 1 and -1, and the second one works nothing."""

    palette = (Load((Force(0, 0, -1),)), Load((Force(1, 0, 0),)))

    def test_rows(self):
        self.assertEqual(work_rows(F, self.palette), ((1, 0), (-1, 0)))

    def test_bears_mix(self):
        self.assertTrue(bears_mix(F, self.palette, (0, 7)))
        self.assertFalse(bears_mix(F, self.palette, (1, 0)))

    def test_factor_range(self):
        self.assertIsNone(factor_range(F.with_own(self.palette[0]), self.palette[1]))
        self.assertIsNone(factor_range(F, self.palette[1]).high)

    def test_first_excess(self):
        first = list(mechanisms(F))[0]
        answer = first_excess(F, self.palette, (0, 2), (1, 5))
        # Where the row is 0 the low is taken.
        self.assertEqual((answer.mechanism, answer.mix, answer.work), (first, (1, 2), 1))
        self.assertIsNone(first_excess(F.with_own(-self.palette[0]), self.palette, (1, 2), (1, 5)))

    def test_relief_fault(self):
        self.assertEqual(relief_fault(F, self.palette, (3, 3), Relief((1, 0), 1)), "mechanism")
        self.assertIsNone(relief_fault(F, self.palette, (3, 3), Relief((0, 3), 1)))
        fallen = F.with_own(self.palette[0])
        self.assertIsNone(relief_fault(fallen, self.palette, (3, 3), NoRelief((1, 0))))
        # A place in which the shares times the rows are above 0 adds nothing to the sum.
        self.assertEqual(relief_fault(F, self.palette, (3, 3), NoRelief((1, 0))), "sum")


class BearsTogetherTest(unittest.TestCase):
    def test_example(self):
        self.assertEqual((bears(E, FIRST * 8), bears(E, FIRST * 8 + THIRD * 2), bears(E, FIRST * 11 + THIRD * 2)),
                         (False, True, False))

    def test_shared_corner_bridge(self):
        bridge = Bridge((((0, 0), (0, 2)), ((0, 2), (5, 7)), ((5, 7), (9, 9))))
        palette = wheel_palette(bridge, (0, 5, 9))
        self.assertEqual(len(work_rows(bridge, palette)), len(list(mechanisms(bridge))))
