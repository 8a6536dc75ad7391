"""Roads: the borders of the stones, and a rule for each lane."""

from fourhinges.errors import BadRoad, NoLane, OtherSize
from fourhinges.kinds import is_row
from fourhinges.loads import MOST_STONES
from fourhinges.ratios import is_whole
from fourhinges.rings import FARTHEST
from fourhinges.rules import Rule

LONGEST_ROAD = 200
MOST_LANES = 2


def _check_borders(borders):
    if not is_row(borders, 2, MOST_STONES + 1):
        raise BadRoad("borders")
    for index, border in enumerate(borders):
        if not is_whole(border, -FARTHEST, FARTHEST) or (index > 0 and border <= borders[index - 1]):
            raise BadRoad("border")
    if borders[-1] - borders[0] > LONGEST_ROAD:
        raise BadRoad("long")


def _check_rules(rules):
    if not is_row(rules, 1, MOST_LANES):
        raise BadRoad("rules")
    if not all([isinstance(rule, Rule) for rule in rules]):
        raise BadRoad("rule")


class Road:
    """A road over a bridge: stone s carries it from border s to border s + 1."""

    def __init__(self, borders, rules):
        _check_borders(borders)
        _check_rules(rules)
        self.borders = tuple(borders)
        self.rules = tuple(rules)
        self.stones = len(self.borders) - 1

    @property
    def names(self):
        """Return the names of all carts of all lanes, each once."""
        found = []
        for rule in self.rules:
            found = found + [cart.name for cart in rule.carts if cart.name not in found]
        return tuple(found)

    def rule(self, lane):
        """Return the rule of a lane."""
        if not is_whole(lane, 0, len(self.rules) - 1):
            raise NoLane(lane)
        return self.rules[lane]

    def only(self, names):
        """Return the road with the steps of these names alone."""
        return Road(self.borders, [rule.only(names) for rule in self.rules])

    def weighted(self, times):
        """Return the road with all weights of carts multiplied."""
        return Road(self.borders, [rule.weighted(times) for rule in self.rules])

    def spaced(self, extra):
        """Return the road with all gaps longer."""
        return Road(self.borders, [rule.spaced(extra) for rule in self.rules])

    def scaled(self, times):
        """Return the road with its borders and its rules scaled."""
        return Road([border * times for border in self.borders], [rule.scaled(times) for rule in self.rules])

    def mirrored(self):
        """Return the road with left and right exchanged."""
        return Road([-border for border in self.borders[::-1]], [rule.turned() for rule in self.rules])

    def stones_at(self, x):
        """Return where a wheel at a place may stand, from the left; None is the ground."""
        stones = [stone for stone in range(self.stones) if self.borders[stone] <= x <= self.borders[stone + 1]]
        left = [None] if x <= self.borders[0] else []
        right = [None] if x >= self.borders[-1] else []
        return tuple(left + stones + right)

    def __eq__(self, other):
        return isinstance(other, Road) and self.borders == other.borders and self.rules == other.rules


def check_road(bridge, road):
    """Raise OtherSize unless the road has as many stones as the bridge."""
    if road.stones != bridge.stones:
        raise OtherSize()


def lane_ends(road, rule):
    """Return the least progress of a lane, and the greatest one that a front can have with a wheel on the bridge."""
    ends = [rule.way * road.borders[0], rule.way * road.borders[-1]]
    return (min(ends), max(ends) + max([cart.length for cart in rule.carts]))


def _continued(rule, room, carts, low, top, more):
    """Yield the carts, and behind them each row that goes on from the room with up to so many more carts."""
    yield carts
    if more == 0:
        return
    for cart in rule.carts:
        step = rule.step(room, cart.name)
        if step is not None:
            gap, after = step
            for progress in range(top, low - 1, -1):
                longer = carts + ((cart.name, rule.way * progress),)
                yield from _continued(rule, after, longer, low, progress - cart.length - gap, more - 1)


def rows_up_to(road, lane, most):
    """Yield all rows of a lane with at most so many carts, all of them where they may have a wheel on the bridge."""
    rule = road.rule(lane)
    low, top = lane_ends(road, rule)
    for room in rule.reachable:
        for carts in _continued(rule, room, (), low, top, most):
            yield (room, carts)
