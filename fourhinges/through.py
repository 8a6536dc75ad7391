"""The thrust through three corners."""

from fourhinges.bridge import are_corners, corner_moments
from fourhinges.errors import BadCorners, InLine
from fourhinges.forces import Force
from fourhinges.loads import sums_before
from fourhinges.rings import twice_area
from fourhinges.thrust import Thrust


def _from_to(start, end):
    return Force.acting(end[0] - start[0], end[1] - start[1], start)


def through(bridge, corners, load=None):
    """Return the thrust that touches three corners."""
    moments = corner_moments(bridge, sums_before(bridge.total(load)))
    if not are_corners(bridge, corners) or len(corners) != 3:
        raise BadCorners()
    points = [bridge.point(corner) for corner in corners]
    area = twice_area(points)
    if area == 0:
        raise InLine(tuple(corners))
    # A force along a side of the triangle has a moment about the opposite corner alone, the area.
    force = Force.none()
    for at, corner in enumerate(corners):
        force = force - _from_to(points[at - 2], points[at - 1]) * moments[corner]
    return Thrust(force, area) if area > 0 else Thrust(-force, -area)
