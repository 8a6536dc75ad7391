"""The search for a thrust that passes a bridge."""

from fourhinges.choices import ascending_sets
from fourhinges.forces import Force
from fourhinges.thrust import Thrust
from fourhinges.vectors import completed, corner_vectors, cross, dot


def vector_force(vector):
    """Return the force with these numbers."""
    moment, across, up = vector
    return Force(across, up, moment)


def _meeting(vectors, works):
    """Return the thrust on which three vectors measure minus their works, as a vector and its parts.

    The parts are 0 if the vectors depend on each other.
    """
    one, two, three = vectors
    sides = (cross(two, three), cross(three, one), cross(one, two))
    parts = dot(one, sides[0])
    sign = -1 if parts > 0 else 1
    place = [sign * dot(works, column) for column in zip(sides[0], sides[1], sides[2])]
    return (place, abs(parts))


def _is_passed(vectors, works, place, parts):
    for vector, amount in zip(vectors, works):
        if dot(vector, place) + amount * parts > 0:
            return False
    return True


def meeting_thrusts(vectors, works, hinges):
    """Yield thrusts on which each vector measures at most minus its work, for a hinge exactly so much.

    The vectors begin with those of the corners; the vectors of the hinges are independent. If there are such
    thrusts at all, some are found: those that measure exactly so much for as many independent vectors as there are.
    """
    # Where all vectors are in one plane, a push across to it changes nothing, and the vector across fixes it.
    spanning = completed(vectors)
    all_works = list(works) + [0] * (len(spanning) - len(vectors))
    for triple in ascending_sets(len(spanning), 3, 3):
        if all([hinge in triple for hinge in hinges]):
            place, parts = _meeting([spanning[at] for at in triple], [all_works[at] for at in triple])
            if parts > 0 and _is_passed(vectors, works, place, parts):
                yield Thrust(vector_force(place), parts)


def meeting_thrust(vectors, works, hinges):
    """Return the first of these thrusts, or None if there is none."""
    for thrust in meeting_thrusts(vectors, works, hinges):
        return thrust
    return None


def passing_thrust(bridge, works, hinges):
    """Return a thrust that passes and touches these hinges, or None if there is none.

    The works are those of the weight 1 at each corner; the motions about the hinges are independent.
    """
    return meeting_thrust(corner_vectors(bridge), works, hinges)
