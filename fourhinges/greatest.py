"""The greatest measure of a motion among the thrusts that pass."""

from fourhinges.choices import ascending_sets
from fourhinges.errors import NotStanding
from fourhinges.passing import passing_thrust, vector_force
from fourhinges.ratios import compare_ratios, ratio
from fourhinges.stands import first_fall
from fourhinges.supports import supports
from fourhinges.thrust import first_barred
from fourhinges.vectors import completed, corner_vectors, cross, dot, motion_vector
from fourhinges.weights import corner_works, motion_of, work_by_corners


class Greatest:
    """The greatest measure, a passing thrust that has it, and a support that shows it."""

    def __init__(self, amount, thrust, weights, parts):
        self.amount = amount
        self.thrust = thrust
        self.weights = weights
        self.parts = parts


class Endless:
    """There is no greatest measure: this force can be added to every thrust that passes."""

    def __init__(self, force):
        self.force = force


def support_value(works, weights, parts):
    """Return minus the work of a support divided by its parts."""
    return ratio(-work_by_corners(works, weights), parts)


def _least_support(bridge, motion, works):
    """Return the least value of a support, its weights and its parts; None if there is no support."""
    least = None
    for weights, parts in supports(bridge, motion):
        amount = support_value(works, weights, parts)
        if least is None or compare_ratios(amount, least[0]) < 0:
            least = (amount, weights, parts)
    return least


def endless_force(bridge, motion):
    """Return a force that passes every joint by itself and on which the motion has a measure above 0.

    The motion has no support.
    """
    vectors = corner_vectors(bridge)
    spanning = completed(vectors)
    wanted = motion_vector(motion)
    # The forces that pass are sums of those that also touch as many independent corners as they can:
    # each of these is across to two of the vectors, in one direction or the other.
    for one, two in ascending_sets(len(spanning), 2, 2):
        across = cross(spanning[one], spanning[two])
        sign = 1 if dot(across, wanted) > 0 else -1
        force = [sign * number for number in across]
        if dot(force, wanted) > 0 and all([dot(force, vector) <= 0 for vector in vectors]):
            return vector_force(force)
    return None


def greatest(bridge, motion, load=None):
    """Return the greatest measure of a motion as a Greatest, or Endless."""
    works = corner_works(bridge, bridge.total(load))
    fall = first_fall(bridge, works)
    if fall is not None:
        raise NotStanding(fall.mechanism)
    least = _least_support(bridge, motion, works)
    if least is None:
        return Endless(endless_force(bridge, motion))
    amount, weights, parts = least
    # A thrust has the greatest measure exactly if it touches the hinges of this support.
    return Greatest(amount, passing_thrust(bridge, works, weights.hinges), weights, parts)


def _greatest_fault(bridge, motion, answer, load):
    if first_barred(bridge, answer.thrust, load) is not None:
        return "thrust"
    if motion.measure_of(answer.thrust) != answer.amount:
        return "measure"
    if len(answer.weights) != bridge.corner_count:
        return "size"
    if answer.parts < 1:
        return "parts"
    if motion_of(bridge, answer.weights) != motion * answer.parts:
        return "motion"
    works = corner_works(bridge, bridge.total(load))
    return None if support_value(works, answer.weights, answer.parts) == answer.amount else "work"


def _endless_fault(bridge, motion, answer):
    vector = (answer.force.moment, answer.force.across, answer.force.up)
    if not all([dot(vector, corner) <= 0 for corner in corner_vectors(bridge)]):
        return "force"
    return None if motion.measure(answer.force) > 0 else "measure"


def greatest_fault(bridge, motion, answer, load=None):
    """Return what is wrong with an answer of greatest, or None."""
    # The total is asked for first, as a load of another size comes before all else.
    bridge.total(load)
    if isinstance(answer, Endless):
        return _endless_fault(bridge, motion, answer)
    return _greatest_fault(bridge, motion, answer, load)
