"""Mechanisms: the least balanced weights of a bridge."""

from fourhinges.bridge import are_corners, side_of
from fourhinges.choices import ascending_sets
from fourhinges.errors import BadCorners
from fourhinges.rings import twice_area
from fourhinges.weights import Weights, check_weights, corner_works, work_by_corners


def _triangles(bridge, corners):
    """Return twice the area of each triangle of these ascending corners, by its three corners."""
    points = {corner: bridge.point(corner) for corner in corners}
    return {(one, two, three): twice_area((points[one], points[two], points[three]))
            for one in corners for two in corners if one < two for three in corners if two < three}


def _pair_amounts(bridge, corners):
    one, two = corners
    return (1, -1) if bridge.point(one) == bridge.point(two) else (0, 0)


def _line_amounts(bridge, corners):
    points = [bridge.point(corner) for corner in corners]
    (x, y), (end_x, end_y), _ = points
    one, two, three = [(at_x - x) * (end_x - x) + (at_y - y) * (end_y - y) for at_x, at_y in points]
    return (two - three, three - one, one - two)


def _amounts(bridge, triangles, corners):
    """Return the amounts, of any sign, that add up to no motion when each is put on one corner's point.

    Amounts with a 0 stand for a set of corners that has no such amounts or more than one choice of them.
    """
    if len(corners) == 2:
        return _pair_amounts(bridge, corners)
    if len(corners) == 3:
        return _line_amounts(bridge, corners) if triangles[corners] == 0 else (0, 0, 0)
    one, two, three, four = corners
    return (triangles[(two, three, four)], -triangles[(one, three, four)],
            triangles[(one, two, four)], -triangles[(one, two, three)])


def _least_on(bridge, triangles, corners):
    """Return the mechanism with exactly these two to four ascending corners as hinges, or None."""
    amounts = _amounts(bridge, triangles, corners)
    sided = [side_of(corner) * amount for corner, amount in zip(corners, amounts)]
    if not all([amount > 0 for amount in sided]) and not all([amount < 0 for amount in sided]):
        return None
    numbers = [0] * bridge.corner_count
    for corner, amount in zip(corners, sided):
        numbers[corner] = abs(amount)
    return Weights(numbers).lowest()


def mechanisms(bridge):
    """Yield all mechanisms of a bridge, in the order of their hinges."""
    triangles = _triangles(bridge, list(range(bridge.corner_count)))
    for corners in ascending_sets(bridge.corner_count, 2, 4):
        found = _least_on(bridge, triangles, corners)
        if found is not None:
            yield found


def mechanism_on(bridge, corners):
    """Return the mechanism whose hinges are exactly these corners, or None."""
    if not are_corners(bridge, corners):
        raise BadCorners()
    if len(corners) < 2 or len(corners) > 4:
        return None
    hinges = tuple(sorted(corners))
    return _least_on(bridge, _triangles(bridge, hinges), hinges)


def is_mechanism(bridge, weights):
    """Say whether weights are a mechanism of the bridge."""
    check_weights(bridge, weights)
    return weights == mechanism_on(bridge, weights.hinges)


def heaviest_work(bridge, load=None):
    """Return the greatest work of a mechanism and the first mechanism that has it, or None."""
    works = corner_works(bridge, bridge.total(load))
    heaviest = None
    for mechanism in mechanisms(bridge):
        amount = work_by_corners(works, mechanism)
        if heaviest is None or amount > heaviest[0]:
            heaviest = (amount, mechanism)
    return heaviest
