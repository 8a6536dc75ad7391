"""Which joints open when the ground moves, and which corners can be seen open together."""

from fourhinges.bridge import are_corners
from fourhinges.errors import BadCorners
from fourhinges.greatest import Endless, greatest
from fourhinges.passing import meeting_thrusts, passing_thrust
from fourhinges.thrust import touched
from fourhinges.vectors import corner_vectors, cross, dot
from fourhinges.weights import corner_works, stone_motions


class Following:
    """The thrust that meets a motion of the left ground, a support that opens, and its motions of the stones."""

    def __init__(self, thrust, weights, parts, motions):
        self.thrust = thrust
        self.weights = weights
        self.parts = parts
        self.motions = motions


def follow(bridge, motion, load=None):
    """Return how the bridge follows a motion of the left ground as a Following, or Endless if it jams."""
    answer = greatest(bridge, motion, load)
    if isinstance(answer, Endless):
        return answer
    return Following(answer.thrust, answer.weights, answer.parts, stone_motions(bridge, answer.weights))


def _is_free(chosen, vector):
    """Say whether a vector does not depend on these independent ones."""
    if not chosen:
        return True
    if len(chosen) == 1:
        return cross(chosen[0], vector) != (0, 0, 0)
    return len(chosen) == 2 and dot(cross(chosen[0], chosen[1]), vector) != 0


def _independent(vectors, corners):
    """Return as many of the corners as have independent vectors."""
    found = []
    for corner in corners:
        if _is_free([vectors[other] for other in found], vectors[corner]):
            found.append(corner)
    return found


def open_together(bridge, corners, load=None):
    """Return a thrust that passes and touches all these corners, or None if there is none."""
    works = corner_works(bridge, bridge.total(load))
    if not are_corners(bridge, corners):
        raise BadCorners()
    # The other corners are touched by every thrust that touches these, or by none.
    thrust = passing_thrust(bridge, works, _independent(corner_vectors(bridge), corners))
    if thrust is None:
        return None
    seen = touched(bridge, thrust, load)
    return thrust if all([corner in seen for corner in corners]) else None


def open_sets(bridge, load=None):
    """Return all greatest sets of corners that can be seen open together."""
    works = corner_works(bridge, bridge.total(load))
    vectors = corner_vectors(bridge)
    found = {touched(bridge, thrust, load): True for thrust in meeting_thrusts(vectors, works, ())}
    return tuple(sorted(list(found)))
