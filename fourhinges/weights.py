"""Weights of corners: how far the joints open, and what the loads work."""

from math import gcd

from fourhinges.bridge import corner_moments, side_of
from fourhinges.errors import BadWeights, NoCorner, OtherSize
from fourhinges.kinds import is_count, is_row
from fourhinges.loads import sums_before
from fourhinges.motions import Motion
from fourhinges.ratios import is_whole

LEAST_CORNERS = 4
MOST_CORNERS = 18


def common_divisor(numbers):
    """Return the greatest common divisor of numbers, 0 if all are 0."""
    divisor = 0
    for number in numbers:
        divisor = gcd(divisor, number)
    return divisor


class Weights:
    """One whole number of at least 0 for each corner."""

    def __init__(self, numbers):
        if not is_row(numbers, LEAST_CORNERS, MOST_CORNERS) or len(numbers) % 2 != 0:
            raise BadWeights("count")
        if not all([is_count(number) for number in numbers]):
            raise BadWeights("number")
        self.numbers = tuple(numbers)

    @property
    def hinges(self):
        """Return the corners whose number is above 0."""
        return tuple([corner for corner, number in enumerate(self.numbers) if number > 0])

    def lowest(self):
        """Return the weights divided by their greatest common divisor."""
        divisor = common_divisor(self.numbers)
        if divisor == 0:
            return Weights(self.numbers)
        return Weights([number // divisor for number in self.numbers])

    def __getitem__(self, at):
        if not is_whole(at, 0, len(self.numbers) - 1):
            raise NoCorner(at)
        return self.numbers[at]

    def __len__(self):
        return len(self.numbers)

    def __iter__(self):
        return iter(self.numbers)

    def __add__(self, other):
        if len(self.numbers) != len(other.numbers):
            raise OtherSize()
        return Weights([one + two for one, two in zip(self.numbers, other.numbers)])

    def __mul__(self, other):
        return Weights([number * other for number in self.numbers])

    def __eq__(self, other):
        return isinstance(other, Weights) and self.numbers == other.numbers


def check_weights(bridge, weights):
    """Raise OtherSize unless there is one weight for each corner of the bridge."""
    if len(weights) != bridge.corner_count:
        raise OtherSize()


def _motion_behind(bridge, weights, first):
    """Return the motion that the openings at all joints from the first one on give together."""
    motion = Motion.none()
    for corner in range(2 * first, bridge.corner_count):
        motion = motion + Motion.turning(bridge.point(corner), side_of(corner) * weights[corner])
    return motion


def motion_of(bridge, weights):
    """Return the motion of the left ground."""
    check_weights(bridge, weights)
    return _motion_behind(bridge, weights, 0)


def stone_motions(bridge, weights):
    """Return the motion of each stone."""
    check_weights(bridge, weights)
    return tuple([_motion_behind(bridge, weights, stone + 1) for stone in range(bridge.stones)])


def corner_works(bridge, load):
    """Return, for each corner, what the weight 1 at it alone works under the forces of a load."""
    moments = corner_moments(bridge, sums_before(load))
    return [side_of(corner) * moment for corner, moment in enumerate(moments)]


def work_by_corners(works, weights):
    """Return the work of weights, given the work of the weight 1 at each corner."""
    return sum([number * amount for number, amount in zip(weights.numbers, works)])


def work(bridge, weights, load=None):
    """Return the work of weights under the total load."""
    check_weights(bridge, weights)
    return work_by_corners(corner_works(bridge, bridge.total(load)), weights)


def extra_work(bridge, weights, load):
    """Return the work of weights under the forces of a load alone."""
    check_weights(bridge, weights)
    if len(load) != bridge.stones:
        raise OtherSize()
    return work_by_corners(corner_works(bridge, load), weights)
