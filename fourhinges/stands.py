"""One load: a thrust that passes, or a mechanism by which the bridge falls."""

from fourhinges.mechanisms import is_mechanism, mechanisms
from fourhinges.passing import passing_thrust
from fourhinges.thrust import first_barred
from fourhinges.weights import corner_works, work_by_corners


class Stands:
    """The bridge stands: this thrust passes."""

    def __init__(self, thrust):
        self.thrust = thrust


class Falls:
    """The bridge falls: this mechanism has this work, above 0."""

    def __init__(self, mechanism, work):
        self.mechanism = mechanism
        self.work = work


def first_fall(bridge, works):
    """Return the Falls of the first mechanism with a work above 0, or None.

    The works are those of the weight 1 at each corner.
    """
    for mechanism in mechanisms(bridge):
        amount = work_by_corners(works, mechanism)
        if amount > 0:
            return Falls(mechanism, amount)
    return None


def stands(bridge, load=None):
    """Return Stands with a thrust that passes, or Falls with the first mechanism that works."""
    works = corner_works(bridge, bridge.total(load))
    fall = first_fall(bridge, works)
    return Stands(passing_thrust(bridge, works, ())) if fall is None else fall


def bears(bridge, load=None):
    """Say whether the load is borne."""
    return first_fall(bridge, corner_works(bridge, bridge.total(load))) is None


def _fall_fault(bridge, fall, works):
    if len(fall.mechanism) != bridge.corner_count:
        return "size"
    if not is_mechanism(bridge, fall.mechanism):
        return "mechanism"
    amount = work_by_corners(works, fall.mechanism)
    return "work" if amount != fall.work or amount <= 0 else None


def stand_fault(bridge, answer, load=None):
    """Return what is wrong with an answer of stands, or None."""
    works = corner_works(bridge, bridge.total(load))
    if isinstance(answer, Falls):
        return _fall_fault(bridge, answer, works)
    return None if first_barred(bridge, answer.thrust, load) is None else "corner"
