import random
import unittest

from fourhinges.book import Book, in_trial, tried
from fourhinges.changes import Ballast, Rod, Shut, Spaced, changed
from fourhinges.errors import BadChange, NoCart, NoChange, NoStone, OtherSize
from fourhinges.road import Road
from fourhinges.traffic import Safe, Unsafe, is_safe, verdict
from fourhinges.trafficjudge import verdict_fault
from tests.crowds import tiny_pair
from tests.roads import R, SINGLE
from tests.samples import E, HUGE, NO_WHOLE, WALL
from tests.test_changes import random_change

FOUR = E.with_own(E.own * 4)


class Plain:
    """A book as a plain list."""

    def __init__(self):
        self.changes, self.days, self.coming = [], [], 0


def state(book):
    """All that can be seen of a book; the next number is seen in a trial."""
    with book.trial():
        coming = book.put(Spaced(1))
    return list(book), book.days, coming


class BookTest(unittest.TestCase):
    def check(self, book, plain, pair):
        self.assertEqual(list(book), plain.changes)
        self.assertEqual(len(book), len(plain.changes))
        self.assertEqual(book.days, tuple(plain.days))
        self.assertIsInstance(book.days, tuple)
        self.assertEqual(book.now(), changed(*pair, [change for _, change in plain.changes]))
        self.assertEqual(state(book), (plain.changes, tuple(plain.days), plain.coming))

    def act(self, rng, book, plain, pair):
        """Do one thing in both books."""
        kind = rng.random()
        if kind < 0.5:
            change = random_change(rng, *pair)
            self.assertEqual(book.put(change), plain.coming)
            plain.changes.append((plain.coming, change))
            plain.coming += 1
        elif kind < 0.75:
            number = rng.randrange(-1, plain.coming + 2)
            found = [change for at, change in plain.changes if at == number]
            if found:
                self.assertEqual(book.take(number), found[0])
                plain.changes.remove((number, found[0]))
            else:
                with self.assertRaises(NoChange) as caught:
                    book.take(number)
                self.assertEqual(caught.exception.number, number)
        else:
            plain.days.append(is_safe(*changed(*pair, [change for _, change in plain.changes])))
            self.assertIs(book.close_day(), plain.days[-1])

    def test_by_a_plain_list(self):
        rng = random.Random(440)
        days = []
        for _ in range(30):
            pair = tiny_pair(rng, lanes=1, times=3)
            book, plain = Book(*pair), Plain()
            for _ in range(20):
                self.act(rng, book, plain, pair)
                self.check(book, plain, pair)
            days.extend(book.days)
        self.assertGreater(days.count(True), 10)
        self.assertGreater(days.count(False), 10)

    def test_by_a_plain_list_within_trials(self):
        rng = random.Random(441)
        for _ in range(20):
            pair = tiny_pair(rng, lanes=1, times=3)
            book, plain = Book(*pair), Plain()
            for _ in range(5):
                self.act(rng, book, plain, pair)
            with book.trial():
                inner = Plain()
                inner.changes, inner.days, inner.coming = list(plain.changes), list(plain.days), plain.coming
                for _ in range(5):
                    self.act(rng, book, inner, pair)
                    self.check(book, inner, pair)
            self.check(book, plain, pair)

    def test_an_empty_book(self):
        book = Book(bridge=E, road=R)
        self.assertEqual((list(book), len(book), book.days, book.now()), ([], 0, (), (E, R)))
        self.assertEqual(verdict_fault(E, R, book.answer()), None)

    def test_numbers_are_not_used_again(self):
        book = Book(E, R)
        self.assertEqual([book.put(Spaced(1)) for _ in range(3)], [0, 1, 2])
        self.assertEqual(book.take(2), Spaced(1))
        self.assertEqual(book.put(Spaced(2)), 3)
        for number in (0, 1, 3):
            book.take(number)
        self.assertEqual(len(book), 0)
        self.assertEqual(book.put(change=Spaced(5)), 4)
        self.assertEqual(list(book), [(4, Spaced(5))])

    def test_take(self):
        book = Book(E, R)
        changes = (Ballast(0, 1, 2), Spaced(1), Shut("dray"))
        for change in changes:
            book.put(change)
        self.assertIs(book.take(number=1), changes[1])
        self.assertEqual(list(book), [(0, changes[0]), (2, changes[2])])
        for number in (1, 3, -1, HUGE) + NO_WHOLE:
            with self.assertRaises(NoChange) as caught:
                book.take(number)
            self.assertEqual(caught.exception.number, number)
            self.assertEqual(len(book), 2)

    def test_answer_and_days(self):
        book = Book(FOUR, R)
        self.assertIsInstance(book.answer(), Safe)
        self.assertIs(book.close_day(), True)
        book.put(Ballast(0, 4, 1))
        answer = book.answer()
        self.assertIsInstance(answer, Unsafe)
        self.assertIsNone(verdict_fault(*book.now(), answer))
        self.assertEqual((answer.mechanism, answer.work), (verdict(*book.now()).mechanism, verdict(*book.now()).work))
        self.assertIs(book.close_day(), False)
        self.assertEqual(book.days, (True, False))
        book.take(0)
        self.assertIs(book.close_day(), True)
        self.assertEqual(book.days, (True, False, True))

    def test_errors_leave_the_book_as_it_was(self):
        book = Book(E, R)
        book.put(Spaced(1))
        book.close_day()
        before = state(book)
        for change, error in ((Ballast(3, 0, 1), NoStone), (Rod(0, 5, (0, 0), (1, 1), 1), NoStone), (Shut("bus"), NoCart),
                              (None, BadChange), (3, BadChange), ((Spaced(1),), BadChange), (Spaced, BadChange)):
            with self.assertRaises(error) as caught:
                book.put(change)
            self.assertEqual(state(book), before)
            if error is BadChange:
                self.assertEqual(caught.exception.what, "change")

    def test_other_size(self):
        for bridge, road in ((E, Road((0, 8), (SINGLE,))), (WALL, R)):
            with self.assertRaises(OtherSize):
                Book(bridge, road)

    def test_iteration_over_a_book_that_changes(self):
        book = Book(E, R)
        for _ in range(3):
            book.put(Spaced(1))
        for number, _ in book:
            book.take(number)
        self.assertEqual(len(book), 0)

    def test_two_books(self):
        one, other = Book(E, R), Book(E, R)
        one.put(Spaced(1))
        one.close_day()
        self.assertEqual((len(other), other.days, other.put(Spaced(2))), (0, (), 0))


class TrialTest(unittest.TestCase):
    def setUp(self):
        self.book = Book(FOUR, R)
        self.book.put(Spaced(1))
        self.book.put(Spaced(2))
        self.book.close_day()
        self.before = state(self.book)

    def do(self):
        self.book.put(Ballast(0, 4, 1))
        self.book.take(0)
        self.book.close_day()

    def test_everything_is_taken_back(self):
        with self.book.trial():
            self.do()
            self.assertEqual(list(self.book), [(1, Spaced(2)), (2, Ballast(0, 4, 1))])
            self.assertEqual(self.book.days, (True, False))
        self.assertEqual(state(self.book), self.before)
        self.assertEqual(self.book.put(Spaced(3)), 2)

    def test_errors(self):
        for error in (KeyError, NoStone, KeyboardInterrupt):
            with self.assertRaises(error):
                with self.book.trial():
                    self.do()
                    raise error(3)
            self.assertEqual(state(self.book), self.before)
        with self.assertRaises(NoStone) as caught:
            with self.book.trial():
                self.do()
                self.book.put(Ballast(3, 0, 1))
        self.assertEqual(caught.exception.stone, 3)
        self.assertEqual(state(self.book), self.before)

    def test_trials_within_trials(self):
        with self.book.trial():
            self.do()
            middle = state(self.book)
            with self.book.trial():
                self.book.take(1)
                self.book.put(Spaced(7))
                with self.book.trial():
                    self.book.close_day()
                self.assertEqual(self.book.days, (True, False))
            self.assertEqual(state(self.book), middle)
        self.assertEqual(state(self.book), self.before)

    def test_an_inner_trial_that_an_error_leaves(self):
        with self.book.trial():
            self.do()
            middle = state(self.book)
            with self.assertRaises(NoChange):
                with self.book.trial():
                    self.book.put(Spaced(9))
                    self.book.take(99)
            self.assertEqual(state(self.book), middle)
        self.assertEqual(state(self.book), self.before)

    def test_a_trial_does_nothing_by_itself(self):
        # The state is the one at the beginning of the block.
        trial = self.book.trial()
        self.do()
        after = state(self.book)
        with trial:
            self.book.take(2)
        self.assertEqual(state(self.book), after)

    def test_return_from_a_trial(self):
        def number():
            with self.book.trial():
                return self.book.put(Spaced(3))
        self.assertEqual((number(), number()), (2, 2))
        self.assertEqual(state(self.book), self.before)


class TriedTest(unittest.TestCase):
    def test_tried(self):
        book = Book(FOUR, R)
        book.put(Spaced(1))
        before = state(book)
        for changes, kind in (((), Safe), ([Ballast(0, 4, 1)], Unsafe), ((Ballast(0, 4, 1), Shut("dray")), Safe),
                              ([Ballast(0, 4, 1), Ballast(0, 4, -1)], Safe), ((Spaced(2), Ballast(0, 4, 9)), Unsafe)):
            answer = tried(book, changes)
            self.assertIsInstance(answer, kind)
            pair = changed(*book.now(), changes)
            self.assertIsNone(verdict_fault(*pair, answer))
            self.assertEqual(state(book), before)

    def test_errors(self):
        book = Book(FOUR, R)
        book.put(Spaced(1))
        before = state(book)
        for changes, error in (((Ballast(0, 0, 1), Ballast(3, 0, 1), None), NoStone), ([Shut("bus"), None], NoCart),
                               ((Spaced(1), None, Shut("bus")), BadChange), ([3], BadChange)):
            with self.assertRaises(error):
                tried(book, changes)
            self.assertEqual(state(book), before)

    def test_random(self):
        rng = random.Random(442)
        for _ in range(30):
            pair = tiny_pair(rng, lanes=1, times=3)
            book = Book(*pair)
            changes = [random_change(rng, *pair) for _ in range(rng.randint(0, 3))]
            answer = tried(book, changes)
            self.assertEqual(isinstance(answer, Safe), is_safe(*changed(*pair, changes)))
            self.assertEqual(len(book), 0)

    def test_in_trial(self):
        book = Book(FOUR, R)
        book.put(Spaced(1))
        before = state(book)

        def task(its_book):
            self.assertIs(its_book, book)
            its_book.put(Ballast(0, 4, 1))
            its_book.take(0)
            return its_book.close_day(), len(its_book)

        self.assertEqual(in_trial(book, task), (False, 1))
        self.assertEqual(state(book), before)
        self.assertIsNone(in_trial(book, task=lambda its_book: None))
        with self.assertRaises(ZeroDivisionError):
            in_trial(book, lambda its_book: its_book.put(Spaced(1)) + 1 // 0)
        with self.assertRaises(NoChange):
            in_trial(book, lambda its_book: (its_book.put(Spaced(1)), its_book.take(7)))
        self.assertEqual(state(book), before)
        self.assertIsInstance(in_trial(book, lambda its_book: tried(its_book, [Ballast(0, 4, 1)])), Unsafe)
