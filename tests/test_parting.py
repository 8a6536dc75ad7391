import random
import unittest
from fractions import Fraction

from fourhinges.errors import OtherSize, Unbalanced
from fourhinges.mechanisms import is_mechanism, mechanisms
from fourhinges.parting import parted
from fourhinges.weights import Weights
from tests.samples import E, F, HUGE, WALL, random_bridges
from tests.test_mechanisms import IN_LINE, SHARED, WITHIN


class PartedTest(unittest.TestCase):
    def check(self, bridge, weights):
        pairs = parted(bridge, weights)
        self.assertIs(type(pairs), tuple)
        total = [Fraction(0)] * bridge.corner_count
        for pair in pairs:
            self.assertIs(type(pair), tuple)
            share, mechanism = pair
            self.assertIs(type(share), tuple)
            part = Fraction(*share)
            self.assertEqual((part.numerator, part.denominator), share)
            self.assertGreater(part, 0)
            self.assertTrue(is_mechanism(bridge, mechanism))
            total = [number + part * more for number, more in zip(total, mechanism)]
        self.assertEqual(total, list(weights))
        hinges = [mechanism.hinges for _, mechanism in pairs]
        self.assertEqual(len(hinges), len(set(hinges)))
        return pairs

    def test_single(self):
        for bridge in (E, F, SHARED, IN_LINE, WITHIN):
            for mechanism in mechanisms(bridge):
                for times in (1, 7, HUGE):
                    self.assertEqual(self.check(bridge, mechanism * times), (((times, 1), mechanism),))

    def test_sums(self):
        rng = random.Random(28)
        shares = set()
        for bridge in [E, F, SHARED, WITHIN] * 3 + random_bridges(29, 40, 4):
            found = list(mechanisms(bridge))
            if not found:
                continue
            for size in (4, HUGE):
                weights = Weights([0] * bridge.corner_count)
                for mechanism in rng.sample(found, min(len(found), rng.randint(1, 6))):
                    weights = weights + mechanism * rng.randint(0, size)
                shares.update(share for share, _ in self.check(bridge, weights))
        # Some shares are not whole.
        self.assertTrue([share for share in shares if share[1] > 1])

    def test_lowest_sums(self):
        rng = random.Random(30)
        for bridge in random_bridges(31, 40, 4):
            found = list(mechanisms(bridge))
            weights = Weights([0] * bridge.corner_count)
            for mechanism in found:
                weights = weights + mechanism * rng.randint(0, 3)
            self.check(bridge, weights.lowest())

    def test_all_zero(self):
        for bridge in (E, F, WALL):
            self.assertEqual(parted(bridge, Weights([0] * bridge.corner_count)), ())

    def test_unbalanced(self):
        for numbers in ((1,) + (0,) * 7, (1, 0, 0, 5, 7, 0, 0, 4), (1, 0, 0, 5, 7, 0, 0, 3 + HUGE), (0,) * 7 + (1,)):
            with self.assertRaises(Unbalanced):
                parted(E, Weights(numbers))

    def test_other_size(self):
        for count in (4, 10):
            for number in (0, 1):
                with self.assertRaises(OtherSize):
                    parted(E, Weights([number] * count))
