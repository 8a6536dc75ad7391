import random
import unittest

from fourhinges.errors import BadRows
from fourhinges.linear import Implied, Parted, implied, implied_fault
from tests.samples import HUGE, NO_WHOLE
from tests.seconds import can_be_met


def product(one, other):
    return sum(a * b for a, b in zip(one, other))


def random_row(rng, places, size):
    return tuple(rng.randint(-size, size) for _ in range(places))


def bearing_rows(rng, count, places, size):
    """Rows that are all at most 0 on some mix."""
    mix = [rng.randint(0, 4) for _ in range(places)]
    rows = [random_row(rng, places, size) for _ in range(count)]
    return [row if product(row, mix) <= 0 else tuple(-number for number in row) for row in rows]


def below_a_sum(rng, rows, places):
    """A row that lies below a sum of the rows, in some places just at it."""
    amounts = [rng.choice((0, 0, 0, rng.randint(1, 5))) for _ in rows]
    return tuple(sum(amount * row[place] for amount, row in zip(amounts, rows)) - rng.choice((0, 0, rng.randint(0, 3)))
                 for place in range(places))


class ImpliedTest(unittest.TestCase):
    def check(self, row, rows):
        answer = implied(row, rows)
        if isinstance(answer, Implied):
            self.check_implied(row, rows, answer)
        else:
            self.check_parted(row, rows, answer)
        self.assertIsNone(implied_fault(row, rows, answer))
        return isinstance(answer, Implied)

    def check_implied(self, row, rows, answer):
        self.assertIsInstance(answer.amounts, tuple)
        self.assertEqual(len(answer.amounts), len(rows))
        self.assertTrue(all(type(number) is int and number >= 0 for number in answer.amounts))
        self.assertTrue(type(answer.parts) is int and answer.parts >= 1)
        for place, number in enumerate(row):
            self.assertLessEqual(number * answer.parts, product([other[place] for other in rows], answer.amounts))

    def check_parted(self, row, rows, answer):
        self.assertIsInstance(answer, Parted)
        self.assertIsInstance(answer.mix, tuple)
        self.assertEqual(len(answer.mix), len(row))
        self.assertTrue(all(type(number) is int and number >= 0 for number in answer.mix))
        self.assertTrue(all(product(other, answer.mix) <= 0 for other in rows))
        self.assertGreater(product(row, answer.mix), 0)

    def test_no_rows(self):
        self.assertTrue(self.check((0,), ()))
        self.assertTrue(self.check([-3, 0, -HUGE], []))
        self.assertFalse(self.check((-3, 1, 0), ()))
        self.assertFalse(self.check((HUGE,), []))

    def test_one_row(self):
        self.assertTrue(self.check((2, -3), ((1, -1),)))
        self.assertTrue(self.check((2, -3), [[4, -6]]))
        self.assertFalse(self.check((2, -3), ((4, -7),)))
        self.assertFalse(self.check((2, -3), ((0, 0),)))
        self.assertTrue(self.check((0, 0), ((0, 0),)))

    def test_the_same_row_and_its_multiples(self):
        rng = random.Random(90)
        for _ in range(20):
            row = random_row(rng, 5, 9)
            self.assertTrue(self.check(row, [row]))
            self.assertTrue(self.check(tuple(7 * number for number in row), [row, row]))
            self.assertTrue(self.check(row, [tuple(7 * number for number in row)]))

    def test_needs_several_rows(self):
        self.assertTrue(self.check((1, 1, -2), ((2, -1, -1), (-1, 2, -1))))
        self.assertFalse(self.check((1, 1, -1), ((2, -1, -1), (-1, 2, -1))))

    def test_random_rows(self):
        rng = random.Random(91)
        kinds = []
        for _ in range(300):
            places = rng.randint(1, 6)
            rows = bearing_rows(rng, rng.randint(0, 6), places, rng.choice((1, 2, 5)))
            kinds.append(self.check(random_row(rng, places, 5), rows))
            kinds.append(self.check(below_a_sum(rng, rows, places), rows))
            self.assertTrue(kinds[-1])
        self.assertGreater(kinds.count(False), 100)

    def test_against_a_second_way(self):
        rng = random.Random(92)
        for _ in range(60):
            places = rng.randint(1, 3)
            rows = [random_row(rng, places, 3) for _ in range(rng.randint(0, 4))]
            row = random_row(rng, places, 3)
            units = [tuple(-(at == place) for at in range(places)) for place in range(places)]
            # The row is parted if some mix makes it 1 or more.
            demands = [(other, 0) for other in rows + units] + [([-number for number in row], -1)]
            self.assertEqual(self.check(row, rows), not can_be_met(demands))

    def test_many_rows(self):
        rng = random.Random(93)
        for count, places in ((40, 17), (40, 3), (100, 17), (17, 17), (40, 1)):
            for size in (1, 9):
                rows = bearing_rows(rng, count, places, size)
                self.check(random_row(rng, places, size), rows)
                self.assertTrue(self.check(below_a_sum(rng, rows, places), rows))

    def test_numbers_of_thirty_figures(self):
        rng = random.Random(94)
        for count, places in ((40, 17), (12, 6), (5, 4), (100, 8)):
            rows = bearing_rows(rng, count, places, 10 ** 30)
            self.check(random_row(rng, places, 10 ** 30), rows)
            self.assertTrue(self.check(below_a_sum(rng, rows, places), rows))

    def test_parted_by_little(self):
        size = 10 ** 30
        rows = ((1, -size), (-size, size ** 2 - 1))
        self.assertFalse(self.check((1, -1), rows[:1]))
        self.assertTrue(self.check((1, -size), ((1, -size),)))
        self.assertFalse(self.check((1, 1 - size), ((1, -size),)))
        self.assertTrue(self.check((size - 1, -size * size + size), rows))

    def test_zeros_everywhere(self):
        rows = [(0, 0, 0)] * 5 + [(1, -1, 0), (0, 1, -1), (-1, 0, 1), (1, 0, -1)]
        self.assertTrue(self.check((0, 0, 0), rows))
        self.assertTrue(self.check((1, -1, 0), rows))
        self.assertFalse(self.check((1, 1, -1), rows))

    def test_nothing_is_changed(self):
        row, rows = [1, -1], [[2, -3], [0, 1]]
        implied(row, rows)
        self.assertEqual((row, rows), ([1, -1], [[2, -3], [0, 1]]))

    def test_bad_rows(self):
        wrong_rows = [(), [], (0,) * 18, None, 5, "1", {0: 1}, {1}, range(2)]
        wrong_rows += [(0, thing) for thing in NO_WHOLE]
        right = Implied((), 1)
        for row in wrong_rows:
            for call in (lambda: implied(row, ()), lambda: implied_fault(row, (), right)):
                with self.subTest(row=row), self.assertRaises(BadRows):
                    call()
        for rows in (None, 5, "", {}, [None], [(1,)], [(1, 2), (1, 2, 3)], [(1, 2), ()], [(1, 2), "12"],
                     [(1, 2), (True, 1)], [{1: 2, 2: 3}], [range(2)], ((0, 0), 7)):
            for call in (lambda: implied((1, 2), rows), lambda: implied_fault((1, 2), rows, right)):
                with self.subTest(rows=rows), self.assertRaises(BadRows):
                    call()
        self.assertTrue(self.check((0,) * 17, [(0,) * 17]))


class ImpliedFaultTest(unittest.TestCase):
    row = (1, 1, -2)
    rows = ((2, -1, -1), (-1, 2, -1))

    def judged(self, amounts, parts):
        return implied_fault(self.row, self.rows, Implied(amounts, parts))

    def test_implied(self):
        self.assertIsNone(self.judged((1, 1), 1))
        self.assertIsNone(self.judged((HUGE, HUGE), HUGE))
        for amounts in ((), (1,), (1, 1, 1)):
            self.assertEqual(self.judged(amounts, 1), "count")
        self.assertEqual(self.judged((-1, 1), 1), "amount")
        self.assertEqual(self.judged((1, -1), 1), "amount")
        self.assertEqual(self.judged((1, 1), 0), "parts")
        self.assertEqual(self.judged((1, 1), -1), "parts")
        for amounts, parts in (((1, 1), 2), ((2, 1), 1), ((0, 0), 1), ((HUGE, HUGE), HUGE + 1)):
            self.assertEqual(self.judged(amounts, parts), "place")

    def test_implied_with_several_faults(self):
        self.assertEqual(self.judged((-1,), 0), "count")
        self.assertEqual(self.judged((-1, 1), 0), "amount")
        self.assertEqual(self.judged((0, 0), 0), "parts")

    def test_parted(self):
        row, rows = (1, 1, -1), self.rows
        self.assertIsNone(implied_fault(row, rows, Parted((1, 1, 1))))
        for mix in ((), (1, 1), (1, 1, 1, 1)):
            self.assertEqual(implied_fault(row, rows, Parted(mix)), "count")
        self.assertEqual(implied_fault(row, rows, Parted((1, 1, -1))), "amount")
        self.assertEqual(implied_fault(row, rows, Parted((2, 1, 1))), "rows")
        self.assertEqual(implied_fault(row, rows, Parted((1, 2, 1))), "rows")
        self.assertEqual(implied_fault(row, rows, Parted((0, 0, 0))), "row")
        self.assertEqual(implied_fault(row, rows, Parted((1, 1, 2))), "row")

    def test_sums_of_1(self):
        self.assertEqual(implied_fault((1,), ((1,),), Parted((1,))), "rows")
        self.assertIsNone(implied_fault((1,), ((0,),), Parted((1,))))
        self.assertEqual(implied_fault((1,), ((0,),), Implied((1,), 1)), "place")

    def test_parted_with_several_faults(self):
        row, rows = (-1, -1, -1), self.rows
        self.assertEqual(implied_fault(row, rows, Parted((-1, 5))), "count")
        self.assertEqual(implied_fault(row, rows, Parted((5, 0, -1))), "amount")
        self.assertEqual(implied_fault(row, rows, Parted((5, 0, 1))), "rows")

    def test_results_keep_their_arguments(self):
        self.assertEqual((Implied((1, 2), 3).amounts, Implied(parts=3, amounts=(1, 2)).parts), ((1, 2), 3))
        self.assertEqual((Parted((1, 2)).mix, Parted(mix=(3,)).mix), ((1, 2), (3,)))
