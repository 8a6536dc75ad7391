import unittest

from fourhinges.carts import Cart
from fourhinges.errors import BadCart
from tests.roads import DRAY, GIG, VAN
from tests.samples import HUGE, NO_WHOLE

GREATEST = 10 ** 30


class CartTest(unittest.TestCase):
    def refused(self, what, *parts, **named):
        with self.subTest(parts=parts, named=named), self.assertRaises(BadCart) as caught:
            Cart(*parts, **named)
        self.assertEqual(caught.exception.what, what)

    def test_attributes(self):
        cart = Cart("van", [[0, 2], (3, 5)], 4)
        self.assertEqual((cart.name, cart.wheels, cart.length), ("van", ((0, 2), (3, 5)), 4))
        self.assertIsInstance(cart.wheels, tuple)
        self.assertTrue(all(isinstance(wheel, tuple) for wheel in cart.wheels))
        self.assertEqual(cart, Cart(length=4, wheels=((0, 2), (3, 5)), name="van"))

    def test_names(self):
        for name in ("a", "z", "abcdefghijkl", "zzzzzzzzzzzz"):
            self.assertEqual(Cart(name, ((0, 1),), 0).name, name)
        for name in ("", "abcdefghijklm", "A", "aB", "a1", "1", "a b", " ", "a-b", "a_b", "\u00e9", "\u00df", "a\n", "`",
                     "{", None, True, 5, b"ab", ["a"], ("a", "b"), {"a": 1}):
            self.refused("name", name, ((0, 1),), 0)

    def test_lengths(self):
        for length in (0, 1, 199, 200):
            self.assertEqual(Cart("a", ((0, 1),), length).length, length)
        for length in (-1, 201, HUGE, -HUGE) + NO_WHOLE:
            self.refused("length", "a", ((0, 1),), length)

    def test_counts_of_wheels(self):
        for count in (1, 2, 3, 4):
            for make in (list, tuple):
                self.assertEqual(Cart("a", make([(0, 1)] * count), 0).wheels, ((0, 1),) * count)
        for wheels in ((), [], ((0, 1),) * 5, [7] * 5, None, 5, True, "ab", {0: (0, 1)}, range(2)):
            self.refused("wheels", "a", wheels, 0)

    def test_wheels(self):
        for wheel in ((0, 1), [7, 1], (7, GREATEST), (3, GREATEST - 1)):
            self.assertEqual(Cart("a", (wheel,), 7).wheels, (tuple(wheel),))
        wrong = [(8, 1), (-1, 1), (0, 0), (0, -1), (0, GREATEST + 1), (0, HUGE), (HUGE, 1), (), (0,), (0, 1, 2), None, 5,
                 "01", {0: 1, 1: 2}, {0, 1}, range(2)]
        wrong += [(0, thing) for thing in NO_WHOLE] + [(thing, 1) for thing in NO_WHOLE]
        for wheel in wrong:
            self.refused("wheel", "a", (wheel,), 7)
            self.refused("wheel", "a", [(0, 1), (1, 1), wheel], 7)
        self.refused("wheel", "a", ((1, 1),), 0)

    def test_the_first_word(self):
        self.refused("name", "", (), -1)
        self.refused("name", None, None, None)
        self.refused("length", "a", (), 201)
        self.refused("length", "a", ((9, 0),), True)
        self.refused("wheels", "a", ((0, 1),) * 4 + (None,), 0)

    def test_later_changes(self):
        wheel, wheels = [0, 2], []
        wheels.append(wheel)
        cart = Cart("van", wheels, 4)
        wheel[1] = 9
        wheels.append((1, 1))
        self.assertEqual(cart.wheels, ((0, 2),))

    def test_total_weight(self):
        self.assertEqual((VAN.total_weight, DRAY.total_weight), (7, 8))
        self.assertEqual(Cart("a", ((0, GREATEST),) * 4, 0).total_weight, 4 * GREATEST)

    def test_scaled(self):
        self.assertEqual(VAN.scaled(3), Cart("van", ((0, 2), (9, 5)), 12))
        self.assertEqual(VAN.scaled(1), VAN)
        self.assertEqual(VAN.scaled(50).length, 200)
        self.assertEqual(DRAY.scaled(HUGE), DRAY)
        for cart, times in ((VAN, 51), (GIG, 201), (VAN, HUGE)):
            with self.assertRaises(BadCart) as caught:
                cart.scaled(times)
            self.assertEqual(caught.exception.what, "length")

    def test_weighted(self):
        self.assertEqual(VAN.weighted(3), Cart("van", ((0, 6), (3, 15)), 4))
        self.assertEqual(VAN.weighted(1), VAN)
        self.assertEqual(DRAY.weighted(GREATEST // 8).wheels, ((0, GREATEST),))
        for cart, times in ((DRAY, GREATEST // 8 + 1), (VAN, GREATEST), (GIG, HUGE)):
            with self.assertRaises(BadCart) as caught:
                cart.weighted(times)
            self.assertEqual(caught.exception.what, "wheel")

    def test_nothing_changes(self):
        VAN.scaled(2)
        VAN.weighted(2)
        self.assertEqual((VAN.wheels, VAN.length), (((0, 2), (3, 5)), 4))

    def test_equality(self):
        one = Cart("van", [(0, 2), (3, 5)], 4)
        self.assertTrue(one == VAN)
        self.assertFalse(one != VAN)
        for other in (Cart("vans", one.wheels, 4), Cart("van", one.wheels, 5), Cart("van", one.wheels[:1], 4),
                      Cart("van", one.wheels[::-1], 4), Cart("van", ((0, 2), (3, 6)), 4), "van", None,
                      ("van", one.wheels, 4), 7):
            self.assertFalse(one == other)
            self.assertTrue(one != other)
