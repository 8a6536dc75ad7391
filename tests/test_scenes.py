import random
import unittest

from fourhinges.carts import Cart
from fourhinges.forces import Force
from fourhinges.loads import Load
from fourhinges.road import Road, rows_up_to
from fourhinges.rules import Rule, row_fault
from fourhinges.scenes import Scene, scene_fault, scene_load
from tests.roads import GIG, R, SINGLE, TURNS, VAN, all_stones, random_road, wheels_of
from tests.samples import HUGE

# Vans and gigs to the right, drays to the left.
TWO = Road((0, 8, 16), (TURNS, SINGLE.turned()))
ROWS = ((1, (("gig", 9), ("van", 3))), (0, (("dray", 16),)))
STONES = (((0,), (0, None)), ((1,),))


class SceneTest(unittest.TestCase):
    def test_nested_tuples(self):
        rows = [[1, [["gig", 9], ["van", 3]]], [0, [["dray", 16]]]]
        stones = [[[0], [0, None]], [[1]]]
        scene = Scene(rows, stones)
        self.assertEqual((scene.rows, scene.stones), (ROWS, STONES))
        self.assertEqual(scene, Scene(stones=STONES, rows=ROWS))
        rows[0][1][0][1] = 5
        stones[1][0].append(7)
        rows.append(7)
        self.assertEqual((scene.rows, scene.stones), (ROWS, STONES))
        for thing in (scene.rows, scene.stones):
            self.check_tuples(thing)

    def check_tuples(self, thing):
        self.assertNotIsInstance(thing, list)
        if isinstance(thing, tuple):
            for part in thing:
                self.check_tuples(part)

    def test_it_checks_nothing(self):
        self.assertEqual(Scene((), [[]]).stones, ((),))
        self.assertEqual(Scene([[9, [["bus", 0]]]], []).rows, ((9, (("bus", 0),)),))

    def test_equality(self):
        self.assertTrue(Scene(ROWS, STONES) == Scene([list(row) for row in ROWS], list(STONES)))
        self.assertFalse(Scene(ROWS, STONES) != Scene(ROWS, STONES))
        for other in (Scene(ROWS[:1], STONES), Scene(ROWS, STONES[:1]), (ROWS, STONES), None,
                      Scene(ROWS, (((1,), (0, None)), ((1,),)))):
            self.assertFalse(Scene(ROWS, STONES) == other)
            self.assertTrue(Scene(ROWS, STONES) != other)

    def test_standing(self):
        self.assertEqual(Scene.standing(TWO, ROWS), Scene(ROWS, STONES))
        self.assertEqual(Scene.standing(TWO, [[0, []], [0, []]]), Scene(((0, ()), (0, ())), ((), ())))
        # The front of the van stands at 0, its second wheel at -3.
        self.assertEqual(Scene.standing(TWO, ((0, (("van", 0),)), (0, (("dray", 0),)))).stones, (((None, None),), ((None,),)))
        self.assertEqual(Scene.standing(TWO, ((0, (("van", 11),)), (0, (("dray", 8),)))).stones, (((1, 0),), ((0,),)))

    def test_standing_takes_the_first_place(self):
        rng = random.Random(220)
        for _ in range(40):
            road = random_road(rng, rng.randint(1, 3), 2, rooms=2)
            rows = [rng.choice(list(rows_up_to(road, lane, 2))) for lane in (0, 1)]
            scene = Scene.standing(road, rows)
            self.assertEqual(scene.rows, tuple(rows))
            self.assertEqual(scene.stones, tuple(all_stones(road, rule, row)[0] for rule, row in zip(road.rules, rows)))
            self.assertIsNone(scene_fault(road, scene))


class SceneFaultTest(unittest.TestCase):
    def judged(self, rows=ROWS, stones=STONES):
        return scene_fault(TWO, Scene(rows, stones))

    def test_right(self):
        self.assertIsNone(self.judged())
        self.assertIsNone(self.judged(stones=(((1,), (0, None)), ((1,),)), rows=((1, (("gig", 9), ("van", 3))), ROWS[1])))
        self.assertIsNone(self.judged(stones=(((0,), (0, 0)), ((None,),))))
        self.assertIsNone(self.judged(((3, ()), (0, ())), ((), ())))

    def test_every_choice_of_stones(self):
        rng = random.Random(221)
        for _ in range(30):
            road = random_road(rng, rng.randint(1, 3), 1, rooms=2)
            row = rng.choice(list(rows_up_to(road, 0, 2)))
            for stones in all_stones(road, road.rule(0), row):
                self.assertIsNone(scene_fault(road, Scene((row,), (stones,))))

    def test_lanes(self):
        for rows, stones in ((ROWS[:1], STONES), (ROWS, STONES[:1]), (ROWS + ROWS, STONES), (ROWS, STONES + STONES),
                             ((), ()), ((), STONES), (ROWS[:1], STONES[:1])):
            self.assertEqual(self.judged(rows, stones), (None, None, "lanes"))

    def test_rows(self):
        for row in ((2, ()), (0, (("gig", 9), ("van", 3))), (1, (("gig", 9), ("van", 8))), (1, (("gig", 9), ("bus", 3)))):
            fault = row_fault(TURNS, row)
            self.assertIsNotNone(fault)
            self.assertEqual(self.judged((row, ROWS[1])), (0,) + fault)
        for row in ((1, ()), (0, (("van", 9),)), (0, (("dray", 9), ("dray", 38)))):
            fault = row_fault(SINGLE.turned(), row)
            self.assertIsNotNone(fault)
            self.assertEqual(self.judged((ROWS[0], row)), (1,) + fault)

    def test_count(self):
        for stones in ((), ((0,),), ((0,), (0, None), (0,))):
            self.assertEqual(self.judged(stones=(stones, STONES[1])), (0, None, "count"))
        self.assertEqual(self.judged(stones=(STONES[0], ())), (1, None, "count"))

    def test_wheels(self):
        for index, stones in ((0, ((), (0, None))), (0, ((0, 0), (0, None))), (1, ((0,), (0,))), (1, ((0,), (0, None, 0)))):
            self.assertEqual(self.judged(stones=(stones, STONES[1])), (0, index, "wheels"))
        self.assertEqual(self.judged(stones=(STONES[0], ((),))), (1, 0, "wheels"))

    def test_stone(self):
        for index, stones in ((0, ((None,), (0, None))), (0, ((2,), (0, None))), (1, ((0,), (None, None))),
                              (1, ((0,), (0, 1))), (1, ((0,), (-1, 0))), (0, ((-1,), (0, None)))):
            self.assertEqual(self.judged(stones=(stones, STONES[1])), (0, index, "stone"))
        self.assertEqual(self.judged(stones=(STONES[0], ((0,),))), (1, 0, "stone"))

    def test_several_faults(self):
        gone = (2, (("gig", 9),))
        self.assertEqual(self.judged((gone,), ()), (None, None, "lanes"))
        # A wrong row comes before its stones, and the first lane before the second one.
        self.assertEqual(self.judged((gone, ROWS[1]), ((), ())), (0, None, "room"))
        self.assertEqual(self.judged((ROWS[0], gone), ((), ())), (0, None, "count"))
        self.assertEqual(self.judged((ROWS[0], gone), (((0,), (9,)), ())), (0, 1, "wheels"))
        self.assertEqual(self.judged((ROWS[0], gone), (((9,), (9,)), ())), (0, 0, "stone"))
        self.assertEqual(self.judged((ROWS[0], gone), (STONES[0], ())), (1, None, "room"))
        self.assertEqual(self.judged(stones=(((0, 9), (9, 9)), ())), (0, 0, "wheels"))

    def test_one_lane(self):
        self.assertIsNone(scene_fault(R, Scene([[0, [["dray", 8]]]], [[[1]]])))
        self.assertEqual(scene_fault(R, Scene([[0, [["dray", 8]]]], [[[2]]])), (0, 0, "stone"))
        self.assertEqual(scene_fault(R, Scene(ROWS, STONES)), (None, None, "lanes"))


class SceneLoadTest(unittest.TestCase):
    def test_wheels_on_stones_and_on_the_ground(self):
        load = Load((Force.hanging(3, 8) + Force.hanging(2, 3), Force.hanging(8, 16)))
        self.assertEqual(scene_load(TWO, Scene(((1, (("gig", 9), ("van", 3))), ROWS[1]), STONES)), load)
        self.assertEqual(scene_load(TWO, Scene(ROWS, (((1,), (0, 0)), ((None,),)))),
                         Load((Force.hanging(2, 3) + Force.hanging(5, 0), Force.hanging(3, 8))))
        self.assertEqual(scene_load(TWO, Scene(((0, ()), (0, ())), ((), ()))), Load.none(2))
        far = Scene.standing(TWO, ((0, (("van", -HUGE),)), (0, (("dray", HUGE),))))
        self.assertEqual(scene_load(TWO, far), Load.none(2))

    def test_random(self):
        rng = random.Random(222)
        for _ in range(60):
            road = random_road(rng, rng.randint(1, 4), 2, rooms=2, heaviest=10 ** 30)
            rows = [rng.choice(list(rows_up_to(road, lane, 2))) for lane in (0, 1)]
            stones = [rng.choice(all_stones(road, rule, row)) for rule, row in zip(road.rules, rows)]
            wanted = [[0, 0] for _ in range(road.stones)]
            for rule, (_, carts), lane_stones in zip(road.rules, rows, stones):
                for (name, front), cart_stones in zip(carts, lane_stones):
                    for (x, weight), stone in zip(wheels_of(rule, name, front), cart_stones):
                        if stone is not None:
                            wanted[stone][0] -= weight
                            wanted[stone][1] -= weight * x
            self.assertEqual(scene_load(road, Scene(rows, stones)), Load([Force(0, up, moment) for up, moment in wanted]))

    def test_turned_carts(self):
        # The second wheel of a cart that drives to the left stands at the right of its front.
        road = Road((0, 8, 16), (Rule((VAN, GIG), TURNS.steps, -1),))
        scene = Scene.standing(road, ((0, (("van", 6),)),))
        self.assertEqual(scene.stones, (((0, 1),),))
        self.assertEqual(scene_load(road, scene), Load((Force.hanging(2, 6), Force.hanging(5, 9))))

    def test_great_weights(self):
        great = Cart("ox", ((0, 10 ** 30), (0, 10 ** 30)), 0)
        road = Road((0, 8), (Rule((great,), ((0, "ox", 1, 0),)),))
        row = (0, (("ox", 7), ("ox", 6)))
        wanted = Load((Force.hanging(2 * 10 ** 30, 7) + Force.hanging(2 * 10 ** 30, 6),))
        self.assertEqual(scene_load(road, Scene.standing(road, (row,))), wanted)
