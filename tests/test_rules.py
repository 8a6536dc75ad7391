import itertools
import random
import unittest

from fourhinges.carts import Cart
from fourhinges.errors import BadCart, BadRule, NoCart
from fourhinges.rules import Rule, row_beyond, row_fault
from tests.roads import DRAY, GIG, SINGLE, TURNS, VAN, is_allowed, random_rule, second_reachable
from tests.samples import HUGE, NO_WHOLE

GREATEST = 10 ** 30
STEP = (0, "van", 2, 1)
# One cart of each name, so that there is room for 16 steps.
FOUR = tuple(Cart(name, ((0, 1),), 0) for name in ("a", "b", "c", "d"))
SIXTEEN = tuple((room, name, 1, room) for room in range(4) for name in "abcd")


class RuleTest(unittest.TestCase):
    def refused(self, what, index, *parts):
        with self.subTest(parts=parts), self.assertRaises(BadRule) as caught:
            Rule(*parts)
        self.assertEqual((caught.exception.what, caught.exception.index), (what, index))

    def test_attributes(self):
        rule = Rule([VAN, GIG], [list(STEP), (1, "gig", 1, 0)], -1)
        self.assertEqual((rule.carts, rule.steps, rule.way), ((VAN, GIG), (STEP, (1, "gig", 1, 0)), -1))
        self.assertTrue(all(isinstance(thing, tuple) for thing in (rule.carts, rule.steps) + rule.steps))
        self.assertEqual(Rule((VAN,), ()).way, 1)
        self.assertEqual(Rule(way=-1, steps=(), carts=(VAN,)), Rule((VAN,), (), -1))

    def test_carts(self):
        self.assertEqual(Rule(FOUR, ()).carts, FOUR)
        for carts in ((), [], FOUR + (VAN,), FOUR + (None,), None, VAN, 5, "van", {0: VAN}, (VAN, None), ["van"],
                      [("van", ((0, 1),), 0)], [True]):
            self.refused("carts", None, carts, None, 0)

    def test_names(self):
        other = Cart("van", ((0, 9),), 7)
        for carts, index in (((VAN, VAN), 1), ((VAN, other), 1), ((GIG, VAN, other), 2), ((GIG, VAN, VAN, GIG), 2),
                             ((GIG, VAN, DRAY, GIG), 3)):
            self.refused("name", index, carts, None, 0)

    def test_ways(self):
        for way in (1, -1):
            self.assertEqual(Rule((VAN,), (), way).way, way)
        for way in (0, 2, -2, HUGE) + NO_WHOLE:
            self.refused("way", None, (VAN,), None, way)

    def test_counts_of_steps(self):
        self.assertEqual(Rule(FOUR, SIXTEEN).steps, SIXTEEN)
        self.assertEqual(Rule(FOUR, []).steps, ())
        for steps in (SIXTEEN + (SIXTEEN[0],), [None] * 17, None, 5, "abcd", {0: STEP}, {STEP}):
            self.refused("steps", None, FOUR, steps)

    def test_steps(self):
        for what, wrong in (
                ("step", (None, 5, "abcd", (), (0, "van", 2), (0, "van", 2, 1, 1), {0: 1, 1: 2, 2: 3, 3: 4})),
                ("room", [(room, "van", 2, 1) for room in (-1, 4, HUGE) + NO_WHOLE]),
                ("cart", [(0, name, 2, 1) for name in ("va", "vans", "", "VAN", None, 0, True, VAN, ["van"], ("van",))]),
                ("gap", [(0, "van", gap, 1) for gap in (0, -1, -HUGE) + NO_WHOLE]),
                ("next", [(0, "van", 2, room) for room in (-1, 4, HUGE) + NO_WHOLE])):
            for step in wrong:
                self.refused(what, 0, (VAN,), (step,))
                self.refused(what, 2, (VAN, GIG), [(1, "van", 2, 1), (2, "gig", 1, 3), step, None])

    def test_double(self):
        self.refused("double", 1, (VAN,), (STEP, STEP))
        self.refused("double", 1, (VAN,), (STEP, (0, "van", 9, 3)))
        self.refused("double", 2, (VAN, GIG), (STEP, (0, "gig", 2, 1), [0, "van", 2, 1]))
        self.assertEqual(len(Rule((VAN, GIG), (STEP, (1, "van", 2, 1), (0, "gig", 2, 1))).steps), 3)

    def test_the_first_word_of_the_first_wrong_step(self):
        self.refused("room", 0, (VAN,), ((4, "gig", 0, 4),))
        self.refused("cart", 0, (VAN,), ((0, "gig", 0, 4),))
        self.refused("gap", 0, (VAN,), ((0, "van", 0, 4),))
        self.refused("gap", 1, (VAN,), (STEP, (0, "van", 0, 4)))
        self.refused("next", 1, (VAN,), (STEP, (0, "van", 2, 4)))
        self.refused("next", 0, (VAN,), ((0, "van", 2, 4), None))
        self.refused("double", 1, (VAN,), (STEP, STEP, None))

    def test_the_order_of_the_words(self):
        self.refused("carts", None, (VAN, VAN, None), (None,), 0)
        self.refused("name", 1, (VAN, VAN), (None,), 0)
        self.refused("way", None, (VAN,), (None,), 0)

    def test_great_gaps(self):
        self.assertEqual(Rule((VAN,), ((0, "van", HUGE, 0),)).step(0, "van"), (HUGE, 0))

    def test_later_changes(self):
        step, steps, carts = list(STEP), [], [VAN]
        steps.append(step)
        rule = Rule(carts, steps)
        step[2] = 7
        steps.append(STEP)
        carts.append(GIG)
        self.assertEqual((rule.carts, rule.steps), ((VAN,), (STEP,)))

    def test_reachable(self):
        self.assertEqual(TURNS.reachable, (0, 1, 3))
        self.assertEqual(Rule((VAN,), ()).reachable, (0,))
        self.assertEqual(Rule((VAN,), ((1, "van", 1, 2), (2, "van", 1, 3))).reachable, (0,))
        chain = ((2, "van", 1, 1), (3, "van", 1, 2), (0, "van", 1, 3))
        for steps in itertools.permutations(chain):
            self.assertEqual(Rule((VAN,), steps).reachable, (0, 1, 2, 3))
        rng = random.Random(200)
        for _ in range(60):
            rule = random_rule(rng, rooms=4)
            self.assertEqual(rule.reachable, second_reachable(rule))
            self.assertIsInstance(rule.reachable, tuple)

    def test_cart(self):
        self.assertEqual((TURNS.cart("van"), TURNS.cart("gig")), (VAN, GIG))
        for name in ("dray", "", "VAN", None, 0, True, ["van"], VAN):
            with self.assertRaises(NoCart) as caught:
                TURNS.cart(name)
            self.assertEqual(caught.exception.name, name)

    def test_step(self):
        self.assertEqual([TURNS.step(room, "van") for room in range(4)], [(2, 1), (3, 3), None, None])
        self.assertEqual([TURNS.step(room, "gig") for room in range(4)], [None, (1, 0), (1, 1), None])
        self.assertIsNone(TURNS.step(0, "dray"))
        self.assertIsNone(TURNS.step(7, "van"))

    def test_only(self):
        self.assertEqual(TURNS.only(("van", "dray")), Rule((VAN, GIG), ((0, "van", 2, 1), (1, "van", 3, 3))))
        self.assertEqual(TURNS.only([]), Rule((VAN, GIG), ()))
        self.assertEqual(TURNS.only(["gig", "van"]), TURNS)
        self.assertEqual(TURNS.turned().only(["gig", "van"]).way, -1)

    def test_weighted(self):
        heavy = TURNS.turned().weighted(5)
        self.assertEqual(heavy, Rule((VAN.weighted(5), GIG.weighted(5)), TURNS.steps, -1))
        with self.assertRaises(BadCart) as caught:
            TURNS.weighted(GREATEST)
        self.assertEqual(caught.exception.what, "wheel")

    def test_scaled(self):
        steps = ((0, "van", 14, 1), (1, "gig", 7, 0), (1, "van", 21, 3), (2, "gig", 7, 1))
        self.assertEqual(TURNS.turned().scaled(7), Rule((VAN.scaled(7), GIG.scaled(7)), steps, -1))
        with self.assertRaises(BadCart) as caught:
            TURNS.scaled(51)
        self.assertEqual(caught.exception.what, "length")
        self.assertEqual(SINGLE.scaled(HUGE).step(0, "dray"), (30 * HUGE, 0))

    def test_spaced(self):
        steps = ((0, "van", 7, 1), (1, "gig", 6, 0), (1, "van", 8, 3), (2, "gig", 6, 1))
        self.assertEqual(TURNS.turned().spaced(5), Rule((VAN, GIG), steps, -1))
        self.assertEqual(TURNS.spaced(0), TURNS)
        self.assertEqual(SINGLE.spaced(HUGE).step(0, "dray"), (HUGE + 30, 0))

    def test_turned(self):
        self.assertEqual(TURNS.turned(), Rule((VAN, GIG), TURNS.steps, -1))
        self.assertEqual(TURNS.turned().turned(), TURNS)

    def test_one_cart_outside_its_bounds_is_enough(self):
        two = Rule((GIG, Cart("big", ((0, GREATEST),), 100)), ((0, "gig", 1, 0),))
        for call, what in ((lambda: two.scaled(3), "length"), (lambda: two.weighted(2), "wheel")):
            with self.assertRaises(BadCart) as caught:
                call()
            self.assertEqual(caught.exception.what, what)

    def test_equality(self):
        same = Rule([VAN, GIG], [list(step) for step in TURNS.steps])
        self.assertTrue(same == TURNS)
        self.assertFalse(same != TURNS)
        for other in (TURNS.turned(), TURNS.spaced(1), Rule((GIG, VAN), TURNS.steps), Rule(TURNS.carts, TURNS.steps[::-1]),
                      TURNS.weighted(2), None, TURNS.steps, "rule"):
            self.assertFalse(same == other)


class RowFaultTest(unittest.TestCase):
    def test_allowed(self):
        for row in ((0, ()), [1, []], (3, ()), (0, (("van", 7),)), (1, [["gig", 0], ["van", -2], ("gig", -8)]),
                    (1, (("van", -HUGE),)), (0, (("van", HUGE), ("gig", HUGE - 6)))):
            self.assertIsNone(row_fault(TURNS, row))

    def test_room(self):
        for room in (2, 4, -1, HUGE):
            self.assertEqual(row_fault(TURNS, (room, ())), (None, "room"))
            self.assertEqual(row_fault(TURNS, (room, (("gig", 3), ("bus", 9)))), (None, "room"))

    def test_step(self):
        for row, index in (((0, (("gig", 0),)), 0), ((0, (("bus", 0),)), 0), ((3, (("van", 0),)), 0),
                           ((0, (("van", 0), ("gig", -6), ("gig", -90))), 2),
                           ((1, (("van", 0), ("gig", -90))), 1), ((0, (("van", 0), ("", -90))), 1)):
            self.assertEqual(row_fault(TURNS, row), (index, "step"))

    def test_gap(self):
        self.assertIsNone(row_fault(TURNS, (0, (("van", 0), ("gig", -6)))))
        for behind in (-5, -4, 0, 3, HUGE):
            self.assertEqual(row_fault(TURNS, (0, (("van", 0), ("gig", behind)))), (1, "gap"))
        # The gap is the one of the step of the cart before it.
        self.assertIsNone(row_fault(TURNS, (1, (("gig", 0), ("van", -2), ("gig", -8)))))
        self.assertEqual(row_fault(TURNS, (1, (("gig", 0), ("van", -2), ("gig", -7)))), (2, "gap"))
        self.assertEqual(row_fault(TURNS, (1, (("gig", 0), ("van", -1), ("gig", -7)))), (1, "gap"))

    def test_the_other_way(self):
        turned = TURNS.turned()
        self.assertIsNone(row_fault(turned, (0, (("van", 0), ("gig", 6)))))
        self.assertEqual(row_fault(turned, (0, (("van", 0), ("gig", 5)))), (1, "gap"))
        self.assertEqual(row_fault(turned, (0, (("van", 0), ("gig", -6)))), (1, "gap"))

    def test_several_faults(self):
        # A cart that has no step is also too close; the step comes first, and an earlier cart before a later one.
        self.assertEqual(row_fault(TURNS, (0, (("van", 0), ("bus", 0)))), (1, "step"))
        self.assertEqual(row_fault(TURNS, (0, (("van", 0), ("gig", 0), ("bus", 0)))), (1, "gap"))
        self.assertEqual(row_fault(TURNS, (0, (("bus", 0), ("gig", 0), ("bus", 0)))), (0, "step"))

    def test_random(self):
        rng = random.Random(201)
        kinds = []
        for _ in range(400):
            rule = random_rule(rng, rooms=3)
            front, carts = 0, []
            for _ in range(rng.randint(0, 4)):
                carts.append((rng.choice(("ox", "cob")), front))
                front -= rule.way * rng.randint(1, 8)
            row = (rng.randint(0, 3), carts)
            fault = row_fault(rule, row)
            self.assertEqual(fault is None, is_allowed(rule, row))
            if fault is not None and fault[0] is not None:
                self.assertTrue(is_allowed(rule, (row[0], carts[:fault[0]])))
                self.assertFalse(is_allowed(rule, (row[0], carts[:fault[0] + 1])))
            kinds.append(fault and fault[1])
        self.assertTrue(all(kinds.count(kind) > 20 for kind in (None, "room", "step", "gap")))


class RowBeyondTest(unittest.TestCase):
    def allows(self, rule, carts):
        return any(is_allowed(rule, (room, carts)) for room in range(4))

    def shortest(self, one, other, most):
        """The fewest carts of a row of the one rule alone, if they are at most so many; all rows are tried."""
        farthest = max([cart.length for cart in one.carts + other.carts] + [0]) + 4
        for count in range(1, most + 1):
            names = [cart.name for cart in one.carts]
            for chosen in itertools.product(names, repeat=count):
                for behind in itertools.product(range(1, farthest + 1), repeat=count - 1):
                    fronts = [-one.way * step for step in itertools.accumulate(behind, initial=0)]
                    carts = list(zip(chosen, fronts))
                    if self.allows(one, carts) and not self.allows(other, carts):
                        return count
        return None

    def check(self, one, other, most=3):
        row = row_beyond(one, other)
        wanted = self.shortest(one, other, most)
        if row is None:
            self.assertIsNone(wanted)
            return None
        self.assertIsInstance(row, tuple)
        self.assertIsInstance(row[1], tuple)
        self.assertIsNone(row_fault(one, row))
        for room in range(4):
            self.assertIsNotNone(row_fault(other, (room, row[1])))
        self.assertEqual(len(row[1]), wanted if wanted is not None else len(row[1]))
        self.assertTrue(wanted is not None or len(row[1]) > most)
        return len(row[1])

    def test_example(self):
        self.assertIsNone(row_beyond(SINGLE.spaced(1), SINGLE))
        self.assertEqual(len(row_beyond(SINGLE, SINGLE.spaced(1))[1]), 2)

    def test_equal_rules(self):
        for rule in (TURNS, SINGLE, TURNS.turned(), TURNS.only(())):
            self.assertIsNone(self.check(rule, rule))

    def test_fewer_names(self):
        self.assertIsNone(self.check(TURNS.only(("van",)), TURNS))
        self.assertIsNone(self.check(TURNS.only(()), TURNS.only(("gig",))))
        self.assertEqual(self.check(TURNS, TURNS.only(("van",))), 1)
        # Without gigs, room 1 is reached as before; without vans, only room 0 is, and it has no gig.
        self.assertIsNone(self.check(TURNS.only(("gig",)), TURNS))
        self.assertEqual(self.check(TURNS, TURNS.only(("gig",))), 1)

    def test_a_name_that_the_other_rule_has_not(self):
        self.assertEqual(self.check(SINGLE, TURNS), 1)
        self.assertIsNone(self.check(SINGLE.only(()), TURNS))

    def test_longer_gaps(self):
        for way in (TURNS, TURNS.turned()):
            self.assertIsNone(self.check(way.spaced(2), way))
            self.assertEqual(self.check(way, way.spaced(1)), 2)

    def test_other_rooms(self):
        one = Rule((GIG,), ((0, "gig", 1, 1), (1, "gig", 1, 0)))
        other = Rule((GIG,), ((0, "gig", 1, 0),))
        self.assertIsNone(self.check(one, other))
        self.assertIsNone(self.check(other, one))
        # Three carts and no more.
        three = Rule((GIG,), ((0, "gig", 1, 3), (3, "gig", 1, 1), (1, "gig", 1, 2)))
        self.assertIsNone(self.check(three, other))
        self.assertEqual(self.check(other, three, 4), 4)
        # Every second gap is longer: the other rule may begin in either room, but not be in both.
        uneven = Rule((GIG,), ((0, "gig", 1, 1), (1, "gig", 3, 0)))
        self.assertIsNone(self.check(uneven, other))
        self.assertEqual(self.check(other, uneven), 3)

    def test_other_lengths(self):
        long = Rule((Cart("gig", ((1, 3),), 3),), ((0, "gig", 1, 0),))
        short = Rule((GIG,), ((0, "gig", 1, 0),))
        self.assertIsNone(self.check(long, short))
        self.assertEqual(self.check(short, long), 2)
        # A longer cart with a shorter gap.
        self.assertIsNone(self.check(long, short.spaced(2)))
        self.assertIsNone(self.check(short.spaced(2), long))

    def test_great_gaps(self):
        self.assertIsNone(row_beyond(SINGLE.spaced(HUGE), SINGLE))
        row = row_beyond(SINGLE.spaced(HUGE), SINGLE.spaced(HUGE + 1))
        self.assertEqual(row[1][0][1] - row[1][1][1], HUGE + 30)

    def test_random(self):
        rng = random.Random(202)
        kinds = []
        for _ in range(150):
            way = rng.choice((1, -1))
            one = random_rule(rng, rooms=rng.randint(1, 3), longest=1, gap=2, way=way)
            other = random_rule(rng, rooms=rng.randint(1, 4), longest=1, gap=2, way=way)
            for pair in ((one, other), (other, one), (one.spaced(1), other)):
                kinds.append(self.check(*pair))
        self.assertTrue(all(kinds.count(kind) > 5 for kind in (None, 1, 2, 3)), kinds)

    def test_ways(self):
        for one, other in ((SINGLE, SINGLE.turned()), (TURNS.turned(), SINGLE)):
            with self.assertRaises(BadRule) as caught:
                row_beyond(one, other)
            self.assertEqual((caught.exception.what, caught.exception.index), ("way", None))
