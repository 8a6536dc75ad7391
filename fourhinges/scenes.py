"""Scenes: rows of carts on a road, with the stone of each wheel."""

from fourhinges.carts import wheel_places
from fourhinges.forces import Force
from fourhinges.loads import Load
from fourhinges.rules import row_fault


def _nested(thing):
    """Return a thing with tuples in place of its lists, at every depth."""
    if isinstance(thing, (list, tuple)):
        return tuple([_nested(part) for part in thing])
    return thing


def _first_stones(road, rule, row):
    places = [wheel_places(rule.cart(name), front, rule.way) for name, front in row[1]]
    return [[road.stones_at(place)[0] for place in some] for some in places]


class Scene:
    """One row of carts for each lane, and the stone of each wheel; None is the ground."""

    def __init__(self, rows, stones):
        self.rows = _nested(rows)
        self.stones = _nested(stones)

    @classmethod
    def standing(cls, road, rows):
        """Return the scene with each wheel on the first place where it may stand."""
        return cls(rows, [_first_stones(road, rule, row) for rule, row in zip(road.rules, rows)])

    def __eq__(self, other):
        return isinstance(other, Scene) and self.rows == other.rows and self.stones == other.stones


def _wheels_fault(road, places, stones):
    if len(stones) != len(places):
        return "wheels"
    if not all([stone in road.stones_at(place) for place, stone in zip(places, stones)]):
        return "stone"
    return None


def _lane_fault(road, rule, row, stones):
    """Return the index and the word of what is wrong in one lane, or None."""
    fault = row_fault(rule, row)
    if fault is not None:
        return fault
    carts = row[1]
    if len(stones) != len(carts):
        return (None, "count")
    for index, (name, front) in enumerate(carts):
        word = _wheels_fault(road, wheel_places(rule.cart(name), front, rule.way), stones[index])
        if word is not None:
            return (index, word)
    return None


def scene_fault(road, scene):
    """Return None for a scene of the road, and where and what is wrong otherwise."""
    if len(scene.rows) != len(road.rules) or len(scene.stones) != len(road.rules):
        return (None, None, "lanes")
    for lane, rule in enumerate(road.rules):
        fault = _lane_fault(road, rule, scene.rows[lane], scene.stones[lane])
        if fault is not None:
            return (lane, fault[0], fault[1])
    return None


def _lane_weights(rule, row, stones):
    """Return, for each wheel in a lane, its stone, its weight and its place."""
    found = []
    for (name, front), cart_stones in zip(row[1], stones):
        cart = rule.cart(name)
        weights = [weight for _, weight in cart.wheels]
        found.extend(list(zip(cart_stones, weights, wheel_places(cart, front, rule.way))))
    return found


def scene_load(road, scene):
    """Return the load of a scene of the road."""
    forces = [Force.none() for _ in range(road.stones)]
    for rule, row, stones in zip(road.rules, scene.rows, scene.stones):
        for stone, weight, x in _lane_weights(rule, row, stones):
            if stone is not None:
                forces[stone] = forces[stone] + Force.hanging(weight, x)
    return Load(forces)
