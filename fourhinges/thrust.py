"""Thrusts, and how they go through the joints of a bridge."""

from math import gcd

from fourhinges.bridge import corner_moments, side_of
from fourhinges.errors import BadThrust, NoCorner
from fourhinges.forces import Force
from fourhinges.kinds import is_number
from fourhinges.loads import sums_before
from fourhinges.ratios import is_whole, ratio


class Thrust:
    """A force divided by a number of parts, in lowest terms."""

    def __init__(self, force, parts=1):
        if not isinstance(force, Force) or not is_number(parts) or parts < 1:
            raise BadThrust()
        divisor = gcd(force.across, force.up, force.moment, parts)
        self.force = Force(force.across // divisor, force.up // divisor, force.moment // divisor)
        self.parts = parts // divisor

    def about(self, point):
        """Return the moment about a point, as a ratio."""
        return ratio(self.force.about(point), self.parts)

    def __add__(self, other):
        return Thrust(self.force * other.parts + other.force * self.parts, self.parts * other.parts)

    def __sub__(self, other):
        return Thrust(self.force * other.parts - other.force * self.parts, self.parts * other.parts)

    def __neg__(self):
        return Thrust(-self.force, self.parts)

    def __eq__(self, other):
        return isinstance(other, Thrust) and self.force == other.force and self.parts == other.parts


def sided_moments(bridge, thrust, load):
    """Return, for each corner, a number of the sign that tells whether the corner bars the thrust.

    It is the moment about the corner, times the parts of the thrust, turned for an outer corner:
    above 0 where the corner bars the thrust, and 0 where it is touched.
    """
    pushes = [thrust.force + force * thrust.parts for force in sums_before(bridge.total(load))]
    moments = corner_moments(bridge, pushes)
    return [side_of(corner) * moment for corner, moment in enumerate(moments)]


def push_at(bridge, thrust, joint, load=None):
    """Return the push at a joint."""
    return thrust + Thrust(bridge.total(load).before(joint))


def moment_at(bridge, thrust, corner, load=None):
    """Return the moment of the push at a corner's joint about the corner."""
    total = bridge.total(load)
    if not is_whole(corner, 0, bridge.corner_count - 1):
        raise NoCorner(corner)
    return (thrust + Thrust(total.before(corner // 2))).about(bridge.point(corner))


def _two_moments(bridge, thrust, joint, load):
    # Both moments have the parts of the push as their bottom, so the tops suffice to compare them.
    push = push_at(bridge, thrust, joint, load)
    inner, outer = bridge.joints[joint]
    return (push.force.about(inner), push.force.about(outer))


def passes(bridge, thrust, joint, load=None):
    """Say whether the push passes a joint."""
    at_inner, at_outer = _two_moments(bridge, thrust, joint, load)
    return at_inner <= 0 <= at_outer


def first_barred(bridge, thrust, load=None):
    """Return the least corner that bars the thrust, or None."""
    for corner, moment in enumerate(sided_moments(bridge, thrust, load)):
        if moment > 0:
            return corner
    return None


def touched(bridge, thrust, load=None):
    """Return the corners that the thrust touches."""
    moments = sided_moments(bridge, thrust, load)
    return tuple([corner for corner, moment in enumerate(moments) if moment == 0])


def crossing(bridge, thrust, joint, load=None):
    """Return where the push crosses the line of a joint, 0 at the inner and 1 at the outer corner."""
    at_inner, at_outer = _two_moments(bridge, thrust, joint, load)
    if at_inner == at_outer:
        return None
    return ratio(at_inner, at_inner - at_outer)


def _point_between(joint, share):
    top, bottom = share
    return tuple([ratio(start * bottom + (end - start) * top, bottom) for start, end in zip(joint[0], joint[1])])


def thrust_line(bridge, thrust, load=None):
    """Return, for each joint, the point where the push crosses its line, or None."""
    shares = [crossing(bridge, thrust, joint, load) for joint in range(bridge.stones + 1)]
    return tuple([None if share is None else _point_between(joint, share)
                  for joint, share in zip(bridge.joints, shares)])


def mixed(one, other, share):
    """Return the mixture of two thrusts: one * (1 - share) + other * share."""
    top, bottom = share
    force = one.force * (other.parts * (bottom - top)) + other.force * (one.parts * top)
    return Thrust(force, one.parts * other.parts * bottom)
