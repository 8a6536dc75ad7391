"""Supports: the least weights that give a motion to the left ground."""

from fourhinges.choices import ascending_sets
from fourhinges.vectors import corner_vectors, cross, dot, motion_vector
from fourhinges.weights import Weights, common_divisor


def _amounts_of_one(vector, wanted):
    if cross(vector, wanted) != (0, 0, 0):
        return None
    return ([dot(vector, wanted)], dot(vector, vector))


def _amounts_of_two(vectors, wanted):
    one, two = vectors
    across = cross(one, two)
    if across == (0, 0, 0) or dot(across, wanted) != 0:
        return None
    return ([dot(cross(wanted, two), across), dot(cross(one, wanted), across)], dot(across, across))


def _amounts_of_three(vectors, wanted):
    one, two, three = vectors
    sides = (cross(two, three), cross(three, one), cross(one, two))
    parts = dot(one, sides[0])
    if parts == 0:
        return None
    sign = 1 if parts > 0 else -1
    return ([sign * dot(side, wanted) for side in sides], sign * parts)


def _amounts_for(vectors, wanted):
    """Return amounts and parts, such that the vectors times their amounts add up to parts times the wanted one.

    None if the vectors depend on each other or do not add up to it.
    """
    if not vectors:
        return ([], 1) if wanted == (0, 0, 0) else None
    if len(vectors) == 1:
        return _amounts_of_one(vectors[0], wanted)
    if len(vectors) == 2:
        return _amounts_of_two(vectors, wanted)
    return _amounts_of_three(vectors, wanted)


def _support_on(vectors, hinges, wanted):
    """Return the support of the wanted vector with exactly these hinges, or None."""
    found = _amounts_for([vectors[hinge] for hinge in hinges], wanted)
    if found is None:
        return None
    amounts, parts = found
    if not all([amount > 0 for amount in amounts]):
        return None
    divisor = common_divisor([parts] + amounts)
    numbers = [0] * len(vectors)
    for hinge, amount in zip(hinges, amounts):
        numbers[hinge] = amount // divisor
    return (Weights(numbers), parts // divisor)


def supports(bridge, motion):
    """Yield all supports of a motion, in the order of their hinges."""
    vectors = corner_vectors(bridge)
    wanted = motion_vector(motion)
    for hinges in ascending_sets(bridge.corner_count, 0, 3):
        found = _support_on(vectors, hinges, wanted)
        if found is not None:
            yield found
