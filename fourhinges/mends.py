"""Mends: the least sets of changes that make a road safe."""

from fourhinges.changes import are_changes, changed
from fourhinges.choices import ascending_sets
from fourhinges.errors import BadChange
from fourhinges.kinds import is_number
from fourhinges.road import check_road
from fourhinges.traffic import Unsafe, first_unsafe, is_safe
from fourhinges.trafficjudge import verdict_fault

MOST_CHANGES = 6


class Mend:
    """The places of changes that make the road safe, and for each part of them a scene that it does not bear."""

    def __init__(self, indexes, breaches):
        self.indexes = indexes
        self.breaches = breaches


def _check_pool(bridge, road, pool):
    check_road(bridge, road)
    if not are_changes(pool) or len(pool) > MOST_CHANGES:
        raise BadChange("pool")
    changed(bridge, road, pool)


def _sets_by_size(count):
    """Return all sets of numbers below the count, smaller ones first."""
    sets = ascending_sets(count, 0, count)
    return [chosen for size in range(count + 1) for chosen in sets if len(chosen) == size]


def _is_part(indexes, chosen):
    return all([index in chosen for index in indexes])


def _proper_parts(indexes):
    """Return all proper subsets of a set, in order."""
    return [tuple([indexes[at] for at in some])
            for some in _sets_by_size(len(indexes)) if len(some) < len(indexes)]


def _with_changes(bridge, road, pool, indexes):
    return changed(bridge, road, [pool[index] for index in indexes])


def least_mends(bridge, road, pool):
    """Return a Mend for each least set of changes of the pool that makes the road safe."""
    _check_pool(bridge, road, pool)
    answers = {}
    mends = []
    for chosen in _sets_by_size(len(pool)):
        if not any([_is_part(mend.indexes, chosen) for mend in mends]):
            new_bridge, new_road = _with_changes(bridge, road, pool, chosen)
            answers[chosen] = first_unsafe(new_bridge, new_road)
            if answers[chosen] is None:
                mends.append(Mend(chosen, tuple([(part, answers[part]) for part in _proper_parts(chosen)])))
    return tuple(mends)


def _are_indexes(count, indexes):
    return (all([is_number(index) and 0 <= index < count for index in indexes])
            and all([one < other for one, other in zip(indexes, indexes[1:])]))


def _are_in_order(count, mends):
    """Say whether the indexes of the mends are places of the pool, and the mends in order and unlike."""
    if not all([_are_indexes(count, mend.indexes) for mend in mends]):
        return False
    keys = [(len(mend.indexes), mend.indexes) for mend in mends]
    return all([one < other for one, other in zip(keys, keys[1:])])


def _mend_fault(bridge, road, pool, mend):
    new_bridge, new_road = _with_changes(bridge, road, pool, mend.indexes)
    if not is_safe(new_bridge, new_road):
        return "unsafe"
    if [part for part, _ in mend.breaches] != _proper_parts(mend.indexes):
        return "breaches"
    for part, answer in mend.breaches:
        new_bridge, new_road = _with_changes(bridge, road, pool, part)
        if not isinstance(answer, Unsafe) or verdict_fault(new_bridge, new_road, answer) is not None:
            return "breach"
    return None


def _is_missing(bridge, road, pool, mends):
    """Say whether there is a safe set of which no mend is a part."""
    for chosen in _sets_by_size(len(pool)):
        if not any([_is_part(mend.indexes, chosen) for mend in mends]):
            new_bridge, new_road = _with_changes(bridge, road, pool, chosen)
            if is_safe(new_bridge, new_road):
                return True
    return False


def mends_fault(bridge, road, pool, mends):
    """Return what is wrong with an answer of least_mends, or None."""
    _check_pool(bridge, road, pool)
    if not _are_in_order(len(pool), mends):
        return "order"
    for mend in mends:
        fault = _mend_fault(bridge, road, pool, mend)
        if fault is not None:
            return fault
    return "missing" if _is_missing(bridge, road, pool, mends) else None
