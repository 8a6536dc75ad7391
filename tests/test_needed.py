import random
import unittest

from fourhinges.bridge import Bridge
from fourhinges.errors import BadPalette
from fourhinges.forces import Force
from fourhinges.linear import Implied, implied, implied_fault
from fourhinges.loads import Load
from fourhinges.mechanisms import mechanisms
from fourhinges.needed import BearsAll, Needed, PartedBy, compare_bridges, needed
from fourhinges.palettes import bears_mix, wheel_palette, work_row, work_rows
from tests.samples import E, EJ, F, WALL, arch, small_bridges
from tests.test_linear import product
from tests.test_palettes import FIRST, MIDDLE, THIRD, random_palette


def second_kept(rows):
    """The places that stay when each row is dropped that the other rows imply."""
    stay = list(range(len(rows)))
    for at, row in enumerate(rows):
        others = [other for other in stay if other != at]
        if isinstance(implied(row, [rows[other] for other in others]), Implied):
            stay = others
    return stay


class NeededTest(unittest.TestCase):
    def check(self, bridge, palette):
        answer = needed(bridge, palette)
        self.assertIsInstance(answer, Needed)
        found = list(mechanisms(bridge))
        rows = work_rows(bridge, palette)
        stay = second_kept(rows)
        self.assertIsInstance(answer.kept, tuple)
        self.assertIsInstance(answer.dropped, tuple)
        self.assertEqual([mechanism for mechanism, _ in answer.kept], [found[at] for at in stay])
        self.assertEqual([mechanism for mechanism, _ in answer.dropped],
                         [found[at] for at in range(len(found)) if at not in stay])
        kept_rows = [rows[at] for at in stay]
        for at, (_, mix) in zip(stay, answer.kept):
            self.check_mix(rows, stay, at, mix)
        for mechanism, paper in answer.dropped:
            self.assertIsInstance(paper, Implied)
            self.assertIsNone(implied_fault(work_row(bridge, mechanism, palette), kept_rows, paper))
        return answer

    def check_mix(self, rows, stay, at, mix):
        self.assertIsInstance(mix, tuple)
        self.assertEqual(len(mix), len(rows[at]))
        self.assertTrue(all(number >= 0 for number in mix))
        self.assertGreater(product(rows[at], mix), 0)
        for other in stay:
            self.assertTrue(other == at or product(rows[other], mix) <= 0)

    def test_example(self):
        answer = self.check(E, (FIRST, MIDDLE, THIRD))
        self.assertEqual([mechanism.hinges for mechanism, _ in answer.kept], [(0, 3, 4, 7), (1, 2, 5, 6)])
        self.assertEqual(len(answer.dropped), 12)

    def test_no_mechanism(self):
        answer = self.check(WALL, [Load((Force.hanging(1, 1),))])
        self.assertEqual((answer.kept, answer.dropped), ((), ()))

    def test_nothing_is_needed_for_no_load(self):
        answer = self.check(E, [Load.none(3)] * 3)
        self.assertEqual((len(answer.kept), len(answer.dropped)), (0, 14))

    def test_of_equal_rows_the_last_stays(self):
        # Every mechanism of F works alike, up to a factor, under one load: one of each sign can stay.
        for force in (Force(0, 5, 3), Force(0, -5, -3), Force(0, 0, 1)):
            self.check(F, [Load((force,))])
            self.check(F, [Load((force,)), Load((-force,))])
        double = Bridge((((0, 0), (4, 4)), ((4, 4), (0, 0)), ((0, 0), (4, 4))))
        self.check(double, [Load((Force(1, 2, 3), Force(2, 0, 5))), Load((Force(0, 1, 0), Force(1, 1, 1)))])

    def test_random(self):
        rng = random.Random(120)
        sizes = set()
        for bridge in small_bridges(121, 60):
            answer = self.check(bridge, random_palette(rng, bridge.stones, rng.randint(1, 5), rng.choice((2, 9))))
            sizes.add((len(answer.kept) > 1, len(answer.dropped) > 1))
        self.assertIn((True, True), sizes)

    def test_wheels(self):
        self.check(E, wheel_palette(E, (0, 8, 16, 24)))
        self.check(arch(4), wheel_palette(arch(4), (0, 40, 80, 120, 160)))

    def test_great_numbers(self):
        rng = random.Random(122)
        self.check(E, random_palette(rng, 3, 6, 10 ** 30))

    def test_the_kept_ones_decide(self):
        rng = random.Random(123)
        for bridge in small_bridges(124, 20):
            palette = random_palette(rng, bridge.stones, 3, 4)
            rows = [work_row(bridge, mechanism, palette) for mechanism, _ in needed(bridge, palette).kept]
            for _ in range(10):
                mix = [rng.randint(0, 4) for _ in palette]
                self.assertEqual(bears_mix(bridge, palette, mix), all(product(row, mix) <= 0 for row in rows))

    def test_result_keeps_its_arguments(self):
        answer = Needed(dropped=(2,), kept=(1,))
        self.assertEqual((answer.kept, answer.dropped), ((1,), (2,)))
        self.assertEqual(Needed((1,), (2,)).kept, (1,))


class CompareTest(unittest.TestCase):
    def check(self, one, other, one_palette, other_palette):
        answer = compare_bridges(one, other, one_palette, other_palette)
        other_rows = work_rows(other, other_palette)
        found = list(mechanisms(one))
        rows = work_rows(one, one_palette)
        parted = [at for at, row in enumerate(rows) if not isinstance(implied(row, other_rows), Implied)]
        if not parted:
            self.assertIsInstance(answer, BearsAll)
            self.assertIsInstance(answer.papers, tuple)
            self.assertEqual(len(answer.papers), len(rows))
            for row, paper in zip(rows, answer.papers):
                self.assertIsInstance(paper, Implied)
                self.assertIsNone(implied_fault(row, other_rows, paper))
            return True
        self.assertIsInstance(answer, PartedBy)
        self.assertEqual(answer.mechanism, found[parted[0]])
        self.assertIsInstance(answer.mix, tuple)
        self.assertGreater(product(rows[parted[0]], answer.mix), 0)
        self.assertTrue(bears_mix(other, other_palette, answer.mix))
        self.assertFalse(bears_mix(one, one_palette, answer.mix))
        return False

    def test_the_same_bridge(self):
        palette = wheel_palette(E, (0, 8, 16, 24))
        self.assertTrue(self.check(E, E, palette, palette))
        self.assertTrue(self.check(WALL, WALL, [Load.none(1)], [Load.none(1)]))

    def test_thicker_joints(self):
        thick = Bridge([((x, y - 1), (a, b + 1)) for (x, y), (a, b) in EJ], E.own)
        palette = wheel_palette(E, (0, 8, 16, 24))
        self.assertTrue(self.check(thick, E, wheel_palette(thick, (0, 8, 16, 24)), palette))
        self.assertFalse(self.check(E, thick, palette, wheel_palette(thick, (0, 8, 16, 24))))

    def test_other_joints(self):
        palette = wheel_palette(E, (0, 8, 16, 24))
        other = arch(3)
        other_palette = wheel_palette(other, (0, 8, 16, 24))
        self.check(E, other, palette, other_palette)
        self.check(other, E, other_palette, palette)

    def test_another_number_of_stones(self):
        rng = random.Random(130)
        kinds = set()
        bridges = small_bridges(131, 60)
        for one, other in zip(bridges, bridges[1:]):
            count = rng.randint(1, 4)
            kinds.add(self.check(one, other, random_palette(rng, one.stones, count),
                                 random_palette(rng, other.stones, count)))
        self.assertEqual(kinds, {True, False})

    def test_without_own_loads(self):
        palette = [FIRST, THIRD]
        heavy = E.with_own(E.own + FIRST * 100)
        self.assertTrue(self.check(heavy, E, palette, palette))
        self.assertTrue(self.check(E, heavy, palette, palette))

    def test_errors_in_order(self):
        right, short = [FIRST, THIRD], [Load.none(2), Load.none(2)]
        cases = (
            ((), 7, "count"), ([7], (), "load"), (short, (), "size"),
            (right, (), "count"), (right, [7], "load"), (right, short, "size"), (right, [7, FIRST, FIRST], "load"),
            (right, [FIRST], "count"), ([FIRST], right, "count"))
        for one_palette, other_palette, what in cases:
            with self.subTest(what), self.assertRaises(BadPalette) as caught:
                compare_bridges(E, E, one_palette, other_palette)
            self.assertEqual(caught.exception.what, what)
        with self.assertRaises(BadPalette) as caught:
            compare_bridges(WALL, E, [Load.none(1)], [Load.none(1)])
        self.assertEqual(caught.exception.what, "size")

    def test_results_keep_their_arguments(self):
        self.assertEqual((BearsAll((1,)).papers, BearsAll(papers=(2,)).papers), ((1,), (2,)))
        answer = PartedBy(mix=(1,), mechanism=2)
        self.assertEqual((answer.mechanism, answer.mix), (2, (1,)))
        self.assertEqual(PartedBy(2, (1,)).mix, (1,))
