"""Relief: a mix within bounds under which the bridge stands, or a proof that there is none."""

from fourhinges.linear import Parted, counts_fault, implied
from fourhinges.mechanisms import mechanisms
from fourhinges.palettes import check_mix, check_palette, work_rows
from fourhinges.vectors import dot
from fourhinges.weights import corner_works, work_by_corners

MOST_RELIEF_LOADS = 16


class Relief:
    """The bridge bears this mix divided by the parts."""

    def __init__(self, mix, parts):
        self.mix = mix
        self.parts = parts


class NoRelief:
    """The mechanisms times these shares work under every mix within the bounds."""

    def __init__(self, shares):
        self.shares = shares


def _check_relief(bridge, palette, highs):
    check_palette(bridge, palette, MOST_RELIEF_LOADS)
    check_mix(palette, highs)


def _own_works(bridge):
    works = corner_works(bridge, bridge.own)
    return [work_by_corners(works, mechanism) for mechanism in mechanisms(bridge)]


def _bound_rows(highs):
    """Return the rows that are at most 0 exactly if each number is at most its high times the parts."""
    places = list(range(len(highs)))
    return [tuple([1 if place == at else 0 for place in places]) + (-high,) for at, high in enumerate(highs)]


def relief(bridge, palette, highs):
    """Return a mix within the highs that the bridge bears as a Relief, or NoRelief."""
    _check_relief(bridge, palette, highs)
    own = _own_works(bridge)
    # The parts are one more place of the mix: they stand for the own load, and they must be above 0.
    rows = [row + (amount,) for row, amount in zip(work_rows(bridge, palette), own)]
    goal = (0,) * len(highs) + (1,)
    answer = implied(goal, rows + _bound_rows(highs))
    if isinstance(answer, Parted):
        return Relief(answer.mix[:-1], answer.mix[-1])
    return NoRelief(answer.amounts[:len(own)])


def _relief_fault(rows, own, highs, answer):
    fault = counts_fault(answer.mix, len(highs))
    if fault is not None:
        return fault
    if answer.parts < 1:
        return "parts"
    if any([number > high * answer.parts for number, high in zip(answer.mix, highs)]):
        return "high"
    if any([amount * answer.parts + dot(row, answer.mix) > 0 for row, amount in zip(rows, own)]):
        return "mechanism"
    return None


def _no_relief_fault(rows, own, highs, answer):
    fault = counts_fault(answer.shares, len(own))
    if fault is not None:
        return fault
    total = dot(answer.shares, own)
    for place, high in enumerate(highs):
        total += high * min(0, dot(answer.shares, [row[place] for row in rows]))
    return None if total > 0 else "sum"


def relief_fault(bridge, palette, highs, answer):
    """Return what is wrong with an answer of relief, or None."""
    _check_relief(bridge, palette, highs)
    rows = work_rows(bridge, palette)
    own = _own_works(bridge)
    if isinstance(answer, NoRelief):
        return _no_relief_fault(rows, own, highs, answer)
    return _relief_fault(rows, own, highs, answer)
