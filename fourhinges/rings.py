"""Points, and rings: the outlines of stones."""

from fourhinges.errors import BadCut, BadRing
from fourhinges.forces import Force
from fourhinges.kinds import is_row
from fourhinges.ratios import is_whole

FARTHEST = 1000000


def is_point(thing):
    """Say whether a thing is a point."""
    return (is_row(thing, 2, 2) and is_whole(thing[0], -FARTHEST, FARTHEST)
            and is_whole(thing[1], -FARTHEST, FARTHEST))


def _sides(ring):
    points = [tuple(point) for point in ring]
    return list(zip(points, points[1:] + points[:1]))


def _cross(one, other):
    return one[0] * other[1] - other[0] * one[1]


def twice_area(ring):
    """Return twice the area within a ring, below 0 if it runs clockwise."""
    return sum([_cross(one, other) for one, other in _sides(ring)])


def ring_force(ring, density):
    """Return the weight of a ring as a force."""
    turning = sum([(one[0] + other[0]) * _cross(one, other) for one, other in _sides(ring)])
    return Force(0, -3 * density * twice_area(ring), -density * turning)


def check_ring(joints, stone, ring):
    """Raise BadRing unless the ring is an outline of the stone between its two joints."""
    if not is_row(ring, 3, 12):
        raise BadRing("ring", stone)
    if not all([is_point(point) for point in ring]):
        raise BadRing("point", stone)
    sides = _sides(ring)
    inner, outer = joints[stone]
    if (tuple(outer), tuple(inner)) not in sides:
        raise BadRing("left", stone)
    inner, outer = joints[stone + 1]
    if (tuple(inner), tuple(outer)) not in sides:
        raise BadRing("right", stone)
    if twice_area(ring) < 0:
        raise BadRing("area", stone)


def cut_ring(ring, one, other):
    """Divide a ring along the segment between two of its points."""
    last = len(ring) - 1
    if not is_whole(one, 0, last) or not is_whole(other, 0, last):
        raise BadCut(one, other)
    if one + 2 > other or (one == 0 and other == last):
        raise BadCut(one, other)
    points = tuple([tuple(point) for point in ring])
    return (points[one:other + 1], points[other:] + points[:one + 1])
