"""Tracks: where the hoist of a yard may stand."""

from fourhinges.carts import wheel_places
from fourhinges.road import Road
from fourhinges.rules import Rule
from fourhinges.yard import laid_stones

HOIST_WAY = 1


class Track:
    """The places of the wheels of a hoist on the firm ground and on the stones that are laid."""

    def __init__(self, yard, stage):
        road = Road(yard.borders, (Rule((yard.hoist,), ()),))
        laid = laid_stones(yard, stage)
        low, top = yard.borders[0], yard.borders[-1]
        self._cart = yard.hoist
        self._allowed = {x: [stone for stone in road.stones_at(x) if stone is None or stone in laid]
                         for x in range(low, top + 1)}
        # Further on all wheels are on the ground, as if the hoist were away.
        self._fronts = [front for front in range(low, top + yard.hoist.length + 1) if self._finds_places(front)]

    def _finds_places(self, front):
        return all([self.choices(x) for x in wheel_places(self._cart, front, HOIST_WAY)])

    def choices(self, x):
        """Return where a wheel at a place may stand; None is the ground."""
        return list(self._allowed.get(x, [None]))

    def is_allowed(self, front, stones):
        """Say whether the hoist may stand like this."""
        places = wheel_places(self._cart, front, HOIST_WAY)
        return (len(stones) == len(places)
                and all([stone in self.choices(x) for stone, x in zip(stones, places)]))

    def hoist_work(self, way, front, stones):
        """Return the work of the hoist."""
        places = wheel_places(self._cart, front, HOIST_WAY)
        return sum([weight * way.wheel_work(stone, x)
                    for (_, weight), stone, x in zip(self._cart.wheels, stones, places)])

    def worst_stand(self, way):
        """Return the front at which the hoist works most, with the stones of its wheels."""
        best = {x: max([way.wheel_work(stone, x) for stone in choices], default=0)
                for x, choices in self._allowed.items()}
        front = max(self._fronts, key=lambda one: self._most_work(best, one))
        return (front, tuple([self._best_stone(way, x) for x in wheel_places(self._cart, front, HOIST_WAY)]))

    def _most_work(self, best, front):
        places = wheel_places(self._cart, front, HOIST_WAY)
        return sum([weight * best.get(x, 0) for (_, weight), x in zip(self._cart.wheels, places)])

    def _best_stone(self, way, x):
        return max(self.choices(x), key=lambda stone: way.wheel_work(stone, x))
