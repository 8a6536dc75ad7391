"""Ways in which a span of a yard can fall."""

from fourhinges.bridge import side_of
from fourhinges.mechanisms import is_mechanism, mechanisms
from fourhinges.motions import Motion
from fourhinges.weights import Weights, stone_motions


class Way:
    """Weights of the whole bridge, and the motions with which they work on the stones of a span."""

    def __init__(self, weights, motions):
        self.weights = weights
        self.motions = motions

    def own_work(self, bridge):
        """Return the work under the own forces of the span."""
        return sum([motion.measure(bridge.own[stone]) for stone, motion in self.motions.items()])

    def wheel_work(self, stone, x):
        """Return the work of a wheel of weight 1 at a place on a stone; 0 beyond the span."""
        if stone not in self.motions:
            return 0
        motion = self.motions[stone]
        return -motion.up - motion.turn * x


def _firm_way(bridge, first, last, weights):
    motions = stone_motions(bridge, weights)
    return Way(weights, {stone: motions[stone] for stone in range(first, last + 1)})


def _firm_ways(bridge, first, last):
    before, behind = [0] * (2 * first), [0] * (2 * (bridge.stones - last - 1))
    part = bridge.between(first, last + 1)
    return [_firm_way(bridge, first, last, Weights(before + list(mechanism) + behind))
            for mechanism in mechanisms(part)]


def _hanging_way(bridge, corner, turn, stones):
    motion = Motion.turning(bridge.point(corner), turn)
    numbers = [1 if other == corner else 0 for other in range(bridge.corner_count)]
    return Way(Weights(numbers), {stone: motion for stone in stones})


def _hanging_ways(bridge, first, last, is_left_firm):
    """Return the ways of a span with one free end: the part beyond a joint turns about one of its corners."""
    found = []
    for corner in range(2 * first, 2 * last + 4):
        joint = corner // 2
        if is_left_firm and joint <= last:
            found.append(_hanging_way(bridge, corner, -side_of(corner), list(range(joint, last + 1))))
        if not is_left_firm and joint > first:
            found.append(_hanging_way(bridge, corner, side_of(corner), list(range(first, joint))))
    return found


def span_ways(bridge, span):
    """Return all ways in which a span can fall."""
    first, last, is_left_firm, is_right_firm = span
    if is_left_firm and is_right_firm:
        return _firm_ways(bridge, first, last)
    return _hanging_ways(bridge, first, last, is_left_firm)


def way_with(bridge, span, weights):
    """Return the way of a span that has these weights, one for each corner of the bridge; None if there is none."""
    first, last, is_left_firm, is_right_firm = span
    if is_left_firm and is_right_firm:
        is_within = all([2 * first <= hinge <= 2 * last + 3 for hinge in weights.hinges])
        return _firm_way(bridge, first, last, weights) if is_within and is_mechanism(bridge, weights) else None
    for way in _hanging_ways(bridge, first, last, is_left_firm):
        if way.weights == weights:
            return way
    return None
