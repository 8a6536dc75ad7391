"""Bridges under roads, and plain searches over all rows and scenes of tiny ones."""

import itertools

from fourhinges.mechanisms import mechanisms
from fourhinges.road import rows_up_to
from fourhinges.scenes import Scene
from fourhinges.weights import work
from tests.roads import all_stones, random_road, wheels_of
from tests.samples import borne_load, line_bridge, random_bridge
from tests.test_workline import wheel_works


def firm_bridge(rng, stones, times):
    """A bridge that bears its own load, and the more beside it the greater times is."""
    bridge = (line_bridge if rng.random() < 0.15 else random_bridge)(rng, stones)
    return bridge.with_own((bridge.own + borne_load(rng, bridge)) * times)


def tiny_pair(rng, times=None, lanes=None, stones=None, **changed):
    """A bridge of one to three stones, and a road that is short enough for a search over all rows."""
    stones = rng.randint(1, 3) if stones is None else stones
    lanes = rng.randint(1, 2) if lanes is None else lanes
    bridge = firm_bridge(rng, stones, rng.choice((0, 1, 3, 30)) if times is None else times)
    settings = {"rooms": rng.randint(1, 3), "longest": 1, "heaviest": 3} | changed
    return bridge, random_road(rng, stones, lanes, 2, **settings)


def tiny_pairs(rng, count, **changed):
    return [tiny_pair(rng, **changed) for _ in range(count)]


def lane_amount(bridge, road, lane, weights):
    """The most that a row of the lane works, by a search over all rows."""
    rule = road.rules[lane]
    most = {(name, front): sum(weight * max(wheel_works(bridge, road, weights, x))
                               for x, weight in wheels_of(rule, name, front))
            for _, carts in rows_up_to(road, lane, 1) for name, front in carts}
    return max(sum(most[cart] for cart in carts) for _, carts in rows_up_to(road, lane, 20))


def greatest_work(bridge, road, weights):
    """The greatest work of weights over all scenes."""
    return work(bridge, weights) + sum(lane_amount(bridge, road, lane, weights) for lane in range(len(road.rules)))


def sums(bridge, road):
    """Each mechanism with its greatest work."""
    return [(mechanism, greatest_work(bridge, road, mechanism)) for mechanism in mechanisms(bridge)]


def second_is_safe(bridge, road):
    return all(amount <= 0 for _, amount in sums(bridge, road))


def all_scenes(road, most=20):
    """All scenes with at most so many carts in each lane."""
    lanes = [[(row, stones) for row in rows_up_to(road, lane, most) for stones in all_stones(road, rule, row)]
             for lane, rule in enumerate(road.rules)]
    for choice in itertools.product(*lanes):
        yield Scene([row for row, _ in choice], [stones for _, stones in choice])


def scenes_of_few(road, most):
    """All scenes if there are at most so many, otherwise none."""
    found = list(itertools.islice(all_scenes(road), most + 1))
    return found if len(found) <= most else []


def some_scenes(rng, road, count, most=20):
    """Scenes drawn at random."""
    rows = [list(rows_up_to(road, lane, most)) for lane in range(len(road.rules))]
    for _ in range(count):
        chosen = [rng.choice(lane) for lane in rows]
        stones = [[[rng.choice(road.stones_at(x)) for x, _ in wheels_of(rule, name, front)] for name, front in row[1]]
                  for rule, row in zip(road.rules, chosen)]
        yield Scene(chosen, stones)
