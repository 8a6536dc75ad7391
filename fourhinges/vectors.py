"""Rows of numbers: motions as (turn, across, up) beside forces as (moment, across, up).

The product of a motion and a force, each written like this, is the measure of the motion on the force.
"""

from fourhinges.bridge import side_of


def dot(one, other):
    """Return the sum of the products of two rows, place by place."""
    return sum([first * second for first, second in zip(one, other)])


def cross(one, other):
    """Return the row of three numbers whose products with both rows are 0."""
    return (one[1] * other[2] - one[2] * other[1],
            one[2] * other[0] - one[0] * other[2],
            one[0] * other[1] - one[1] * other[0])


def motion_vector(motion):
    """Return the numbers of a motion."""
    return (motion.turn, motion.across, motion.up)


def corner_vectors(bridge):
    """Return, for each corner, the motion that the weight 1 at it alone gives to the left ground.

    Its product with a thrust, plus the work of the weight 1 at the corner, is above 0 exactly if the
    corner bars the thrust, and 0 exactly if the thrust touches it.
    """
    vectors = []
    for corner in range(bridge.corner_count):
        x, y = bridge.point(corner)
        side = side_of(corner)
        vectors.append((side, side * y, -side * x))
    return vectors


def completed(vectors):
    """Return the vectors of corners, and one more across to them if all corners are in one line.

    So there are always three of them that depend on nothing else.
    """
    # The first two corners belong to one joint, so their points differ.
    across = cross(vectors[0], vectors[1])
    if all([dot(across, vector) == 0 for vector in vectors]):
        return vectors + [across]
    return list(vectors)
