"""What the document promises over the whole program."""

import random
import unittest

from fourhinges.book import Book, tried
from fourhinges.bridgetext import bridge_text, read_bridge, work_table
from fourhinges.changes import Ballast, Spaced, changed
from fourhinges.cracks import open_sets
from fourhinges.errors import BridgeError
from fourhinges.limitedtraffic import LimitedSafe, limited_verdict
from fourhinges.limits import Limit
from fourhinges.mends import least_mends
from fourhinges.motions import Motion
from fourhinges.road import Road
from fourhinges.roadtext import read_road, road_text
from fourhinges.scenes import scene_fault, scene_load
from fourhinges.stands import bears, stand_fault, stands
from fourhinges.sure import fixed_range
from fourhinges.thrust import passes
from fourhinges.traffic import Safe, Unsafe, factor, is_safe, least_extra_gap, permits, verdict
from fourhinges.trafficjudge import verdict_fault
from tests.crowds import second_is_safe, scenes_of_few, some_scenes, tiny_pair, tiny_pairs
from tests.samples import E
from tests.seconds import is_borne
from tests.test_changes import random_change


class MainPromiseTest(unittest.TestCase):
    """[0.2]: Safe exactly if the bridge bears every scene."""

    def check_scene(self, bridge, road, scene):
        self.assertIsNone(scene_fault(road, scene))
        load = scene_load(road, scene)
        answer = stands(bridge, load)
        self.assertIsNone(stand_fault(bridge, answer, load))
        return bears(bridge, load)

    def test_every_scene(self):
        rng = random.Random(500)
        kinds = []
        for lanes in (1, 2):
            for bridge, road in tiny_pairs(rng, 60, lanes=lanes, gap=2, names=("ox",)):
                scenes = scenes_of_few(road, 600)
                if not scenes:
                    continue
                borne = [self.check_scene(bridge, road, scene) for scene in scenes]
                answer = verdict(bridge, road)
                kinds.append(isinstance(answer, Safe))
                self.assertEqual(kinds[-1], all(borne))
                self.assertEqual(kinds[-1], second_is_safe(bridge, road))
        self.assertGreater(kinds.count(True), 10)
        self.assertGreater(kinds.count(False), 10)

    def test_no_thrust_passes_under_the_scene_of_an_unsafe_answer(self):
        rng = random.Random(501)
        seen = 0
        for bridge, road in tiny_pairs(rng, 60, times=1):
            answer = verdict(bridge, road)
            if isinstance(answer, Unsafe):
                seen += 1
                self.assertFalse(is_borne(bridge, scene_load(road, answer.scene)))
        self.assertGreater(seen, 20)

    def test_a_thrust_passes_all_joints_under_each_scene_of_a_safe_road(self):
        rng = random.Random(502)
        for _ in range(20):
            bridge, road = tiny_pair(rng, times=30)
            if is_safe(bridge, road):
                for scene in some_scenes(rng, road, 10):
                    load = scene_load(road, scene)
                    thrust = stands(bridge, load).thrust
                    self.assertTrue(all(passes(bridge, thrust, joint, load) for joint in range(bridge.stones + 1)))

    def test_limits_that_do_not_matter(self):
        rng = random.Random(503)
        for bridge, road in tiny_pairs(rng, 40):
            answer = limited_verdict(bridge, road, (Limit(Motion.none(), 0),))
            self.assertEqual(isinstance(answer, LimitedSafe), is_safe(bridge, road))


def all_answers(bridge, road):
    """What the program says of a bridge under a road, as plain values."""
    answer = verdict(bridge, road)
    found = [type(answer).__name__, permits(bridge, road), least_extra_gap(bridge, road), open_sets(bridge),
             work_table(bridge)]
    if isinstance(answer, Unsafe):
        found += [answer.mechanism.numbers, answer.work]
    else:
        reach = fixed_range(bridge, road, Motion(0, 1, 0))
        found += [[mechanism.numbers for mechanism, _ in answer.papers], reach.low, reach.high, factor(bridge, road)]
    return found


class TextsTest(unittest.TestCase):
    def test_written_and_read_again(self):
        rng = random.Random(504)
        for bridge, road in tiny_pairs(rng, 40):
            again = read_bridge(bridge_text(bridge)), read_road(road_text(road))
            self.assertEqual(again, (bridge, road))
            self.assertEqual(all_answers(*again), all_answers(bridge, road))
            self.assertIsNone(verdict_fault(*again, verdict(bridge, road)))


class LikenessTest(unittest.TestCase):
    """[7.10] over all of part 7."""

    def test_moved_bridges(self):
        rng = random.Random(505)
        for bridge, road in tiny_pairs(rng, 30):
            moved = bridge.moved(-7, 11), Road([border - 7 for border in road.borders], road.rules)
            one, other = verdict(bridge, road), verdict(*moved)
            self.assertEqual(type(one), type(other))
            if isinstance(one, Unsafe):
                self.assertEqual((one.mechanism, one.work), (other.mechanism, other.work))
            self.assertEqual((permits(*moved), least_extra_gap(*moved)), (permits(bridge, road), least_extra_gap(bridge, road)))

    def test_mirrored_bridges(self):
        rng = random.Random(506)
        for bridge, road in tiny_pairs(rng, 30):
            mirrored = bridge.mirrored(), road.mirrored()
            self.assertEqual(is_safe(*mirrored), is_safe(bridge, road))
            self.assertEqual((permits(*mirrored), least_extra_gap(*mirrored)),
                             (permits(bridge, road), least_extra_gap(bridge, road)))
            if bears(bridge):
                self.assertEqual(factor(*mirrored), factor(bridge, road))

    def test_scaled_bridges(self):
        rng = random.Random(507)
        for bridge, road in tiny_pairs(rng, 30):
            one, other = verdict(bridge, road), verdict(bridge.scaled(3), road.scaled(3))
            self.assertEqual(type(one), type(other))
            if isinstance(one, Unsafe):
                self.assertEqual((one.mechanism, 3 * one.work), (other.mechanism, other.work))
            if bears(bridge):
                self.assertEqual(factor(bridge.scaled(3), road.scaled(3)), factor(bridge, road))


class BookTest(unittest.TestCase):
    def test_answers_of_the_changed_bridge_and_road(self):
        rng = random.Random(508)
        for _ in range(40):
            pair = tiny_pair(rng, times=3, lanes=1)
            changes = [random_change(rng, *pair) for _ in range(rng.randint(0, 4))]
            book = Book(*pair)
            for change in changes:
                book.put(change)
            after = changed(*pair, changes)
            self.assertEqual(book.now(), after)
            self.assertEqual(all_answers(*book.now()), all_answers(*after))
            for answer in (book.answer(), tried(Book(*pair), changes)):
                self.assertIsNone(verdict_fault(*after, answer))
            self.assertEqual(book.close_day(), second_is_safe(*after))

    def test_mends_in_a_book(self):
        rng = random.Random(509)
        seen = 0
        for _ in range(30):
            pair = tiny_pair(rng, times=2, lanes=1)
            pool = [random_change(rng, *pair) for _ in range(4)]
            for mend in least_mends(*pair, pool):
                seen += 1
                self.assertIsInstance(tried(Book(*pair), [pool[index] for index in mend.indexes]), Safe)
                for part, _ in mend.breaches:
                    self.assertIsInstance(tried(Book(*pair), [pool[index] for index in part]), Unsafe)
        self.assertGreater(seen, 10)


class GeneralTest(unittest.TestCase):
    def test_nothing_that_is_passed_in_is_kept_or_changed(self):
        rng = random.Random(510)
        for bridge, road in tiny_pairs(rng, 10):
            texts = bridge_text(bridge), road_text(road)
            all_answers(bridge, road)
            pool = [Spaced(1), Ballast(0, 1, 2)]
            least_mends(bridge, road, pool)
            book = Book(bridge, road)
            tried(book, pool)
            self.assertEqual((bridge_text(bridge), road_text(road)), texts)
            self.assertEqual(pool, [Spaced(1), Ballast(0, 1, 2)])
            limits = [Limit(Motion(0, 1, 0), 5)]
            limited_verdict(bridge, road, limits)
            self.assertEqual(limits, [Limit(Motion(0, 1, 0), 5)])

    def test_all_errors_are_bridge_errors(self):
        with self.assertRaises(BridgeError):
            read_bridge("")
        with self.assertRaises(BridgeError):
            verdict(E, read_road("road 0 1\nlane 1\ncart a 0 0 1"))
