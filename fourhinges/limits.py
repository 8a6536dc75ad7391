"""Limits: how much the ground can bear."""

from fourhinges.circuits import circuits
from fourhinges.errors import BadLimit
from fourhinges.kinds import is_number, is_row
from fourhinges.motions import Motion
from fourhinges.passing import meeting_thrust
from fourhinges.stands import Stands
from fourhinges.vectors import corner_vectors, dot, motion_vector
from fourhinges.weights import Weights, corner_works, work_by_corners

MOST_LIMITS = 4


class Limit:
    """The measure of a motion on the thrust must be at most a number."""

    def __init__(self, motion, most):
        if not isinstance(motion, Motion):
            raise BadLimit("motion")
        if not is_number(most):
            raise BadLimit("most")
        self.motion = motion
        self.most = most

    def __eq__(self, other):
        return isinstance(other, Limit) and self.motion == other.motion and self.most == other.most


class LimitedFalls:
    """No thrust passes and keeps the limits: these weights and shares work more than they are allowed."""

    def __init__(self, weights, shares, work):
        self.weights = weights
        self.shares = shares
        self.work = work


def check_limits(limits):
    """Raise BadLimit unless a thing is a list or tuple of limits."""
    if not is_row(limits, 0, MOST_LIMITS):
        raise BadLimit("count")
    if not all([isinstance(limit, Limit) for limit in limits]):
        raise BadLimit("limit")


def kept(limits, thrust):
    """Say whether a thrust keeps all limits."""
    check_limits(limits)
    return all([limit.motion.measure(thrust.force) <= limit.most * thrust.parts for limit in limits])


def _limit_vectors(limits):
    return [motion_vector(limit.motion) for limit in limits]


def limited_pairs(bridge, limits):
    """Return all limited mechanisms, in their order."""
    count = bridge.corner_count
    found = circuits(corner_vectors(bridge) + _limit_vectors(limits))
    return [(Weights(numbers[:count]), numbers[count:]) for numbers in found]


def limited_mechanisms(bridge, limits):
    """Yield all limited mechanisms, in the order of their places."""
    check_limits(limits)
    for pair in limited_pairs(bridge, limits):
        yield pair


def allowance(limits, shares):
    """Return how much a limited mechanism with these shares may work."""
    return dot(shares, [limit.most for limit in limits])


def limited_stands(bridge, limits, load=None):
    """Return Stands with a thrust that passes and keeps the limits, or LimitedFalls."""
    works = corner_works(bridge, bridge.total(load))
    check_limits(limits)
    for weights, shares in limited_pairs(bridge, limits):
        amount = work_by_corners(works, weights)
        if amount > allowance(limits, shares):
            return LimitedFalls(weights, shares, amount)
    # A limit bounds the thrust as a corner does whose weight 1 works minus its most.
    vectors = corner_vectors(bridge) + _limit_vectors(limits)
    return Stands(meeting_thrust(vectors, works + [-limit.most for limit in limits], ()))
