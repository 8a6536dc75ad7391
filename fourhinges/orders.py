"""Orders of steps by which a bridge is built."""

from fourhinges.errors import BadStage
from fourhinges.stages import Site, stage_steps
from fourhinges.yard import checked_stage

EMPTY = (0, 0, ())


class Order:
    """Steps from the empty stage to the finished one."""

    def __init__(self, steps):
        self.steps = steps


class ClosedLot:
    """All stages that can be reached, the finished one not among them."""

    def __init__(self, stages):
        self.stages = stages


def _finished(yard):
    return (yard.bridge.stones, 0, ())


def _steps_to(came, stage):
    """Return the steps that lead from the empty stage to a stage."""
    steps = []
    while came[stage] is not None:
        stage, step = came[stage]
        steps.append(step)
    return tuple(steps[::-1])


def _reached(yard, site, most):
    """Return each stage that can be reached, with the stage before it and the step from there; the nearest first."""
    came = {EMPTY: None}
    nearest = [EMPTY]
    while nearest:
        following = []
        for stage in nearest:
            steps = list(stage_steps(yard, stage, most))
            for step, after in steps:
                if after not in came and site.first_stage_fall(after) is None:
                    came[after] = (stage, step)
                    following.append(after)
        nearest = list(following)
    return came


def _order(yard, site, most):
    came = _reached(yard, site, most)
    finished = _finished(yard)
    if finished in came:
        return Order(_steps_to(came, finished))
    return ClosedLot(tuple(sorted(list(came))))


def build_order(yard, most):
    """Return an Order of the fewest steps with at most so many frames, or a ClosedLot."""
    return _order(yard, Site(yard), most)


def _order_fault(yard, site, most, steps):
    stage = EMPTY
    for step in steps:
        found = [after for other, after in stage_steps(yard, stage, most) if other == step]
        if not found:
            return "step"
        stage = found[0]
        if site.first_stage_fall(stage) is not None:
            return "falls"
    return None if stage == _finished(yard) else "end"


def _is_stage(yard, thing, most):
    try:
        stage = checked_stage(yard, thing)
    except BadStage:
        return False
    return len(stage[2]) <= most


def _is_open(yard, site, most, stages):
    """Say whether a step leads from one of the stages to another one that stands."""
    for stage in stages:
        steps = [after for _, after in stage_steps(yard, stage, most) if after not in stages]
        if any([site.first_stage_fall(after) is None for after in steps]):
            return True
    return False


def _lot_fault(yard, site, most, stages):
    if not all([_is_stage(yard, stage, most) for stage in stages]):
        return "order"
    if not all([one < other for one, other in zip(stages, stages[1:])]):
        return "order"
    if EMPTY not in stages:
        return "start"
    if _finished(yard) in stages:
        return "end"
    if any([site.first_stage_fall(stage) is not None for stage in stages]):
        return "falls"
    return "open" if _is_open(yard, site, most, stages) else None


def order_fault(yard, most, answer):
    """Return what is wrong with an answer of build_order, or None."""
    site = Site(yard)
    if isinstance(answer, ClosedLot):
        return _lot_fault(yard, site, most, answer.stages)
    return _order_fault(yard, site, most, answer.steps)


def fewest_frames(yard):
    """Return the least number of frames with which there is an order, or None."""
    site = Site(yard)
    for most in range(yard.bridge.stones + 1):
        if isinstance(_order(yard, site, most), Order):
            return most
    return None
