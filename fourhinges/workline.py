"""Work lines: how much a wheel works at each place of a road."""

from fourhinges.carts import wheel_places
from fourhinges.errors import NoStone
from fourhinges.ratios import is_whole
from fourhinges.road import check_road
from fourhinges.weights import stone_motions


class WorkLine:
    """The work of a wheel of weight 1 at each place, for weights of the corners."""

    def __init__(self, bridge, road, weights):
        check_road(bridge, road)
        self._road = road
        self._motions = stone_motions(bridge, weights)
        # Beyond the borders a wheel stands on the ground and works nothing.
        self._works = {x: max(self._choices(x)) for x in range(road.borders[0], road.borders[-1] + 1)}

    def _work_on(self, stone, x):
        """Return the work of a wheel of weight 1 that stands on a stone, or on the ground, at a place."""
        if stone is None:
            return 0
        motion = self._motions[stone]
        return -motion.up - motion.turn * x

    def _choices(self, x):
        return [self._work_on(stone, x) for stone in self._road.stones_at(x)]

    def __call__(self, x):
        return self._works.get(x, 0)

    def best_stone(self, x):
        """Return the first stone, or None for the ground, on which a wheel at a place works most."""
        choices = self._choices(x)
        return self._road.stones_at(x)[choices.index(max(choices))]

    def ends(self, stone):
        """Return the works of a wheel of weight 1 on a stone at its left and at its right border."""
        if not is_whole(stone, 0, self._road.stones - 1):
            raise NoStone(stone)
        left, right = self._road.borders[stone:stone + 2]
        return (self._work_on(stone, left), self._work_on(stone, right))

    def cart_work(self, cart, front, way):
        """Return the work of a cart."""
        places = wheel_places(cart, front, way)
        return sum([weight * self._works.get(x, 0) for (_, weight), x in zip(cart.wheels, places)])
