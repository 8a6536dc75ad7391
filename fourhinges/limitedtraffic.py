"""All rows of carts on ground that gives way."""

from fourhinges.limits import allowance, check_limits, limited_pairs
from fourhinges.motions import Motion
from fourhinges.road import check_road
from fourhinges.scenes import scene_fault
from fourhinges.trafficjudge import scene_work, tables_fault, tables_work
from fourhinges.weights import corner_works, motion_of, work_by_corners
from fourhinges.worst import Worst


class LimitedSafe:
    """Under every scene some thrust passes and keeps the limits: for each limited mechanism the tables that show it."""

    def __init__(self, papers):
        self.papers = papers


class LimitedUnsafe:
    """Under a scene these weights and shares work more than they are allowed."""

    def __init__(self, weights, shares, work, scene):
        self.weights = weights
        self.shares = shares
        self.work = work
        self.scene = scene


def limited_verdict(bridge, road, limits):
    """Return LimitedSafe if under every scene some thrust passes and keeps the limits, or LimitedUnsafe."""
    check_road(bridge, road)
    check_limits(limits)
    own = corner_works(bridge, bridge.own)
    papers = []
    for weights, shares in limited_pairs(bridge, limits):
        worst = Worst(bridge, road, weights)
        amount = work_by_corners(own, weights) + worst.carts_work()
        if amount > allowance(limits, shares):
            return LimitedUnsafe(weights, shares, amount, worst.standing_scene())
        papers.append((weights, shares, worst.tables()))
    return LimitedSafe(tuple(papers))


def _limited_safe_fault(bridge, road, limits, papers):
    if [(weights, shares) for weights, shares, _ in papers] != limited_pairs(bridge, limits):
        return "mechanisms"
    for weights, shares, tables in papers:
        fault = tables_fault(bridge, road, weights, tables)
        if fault is not None:
            return fault
        if tables_work(bridge, weights, tables) > allowance(limits, shares):
            return "sum"
    return None


def _joined_motion(bridge, limits, weights, shares):
    motion = motion_of(bridge, weights)
    for limit, share in zip(limits, shares):
        motion = motion + limit.motion * share
    return motion


def _limited_unsafe_fault(bridge, road, limits, answer):
    if len(answer.weights) != bridge.corner_count or len(answer.shares) != len(limits):
        return "size"
    if any([share < 0 for share in answer.shares]):
        return "mechanism"
    if _joined_motion(bridge, limits, answer.weights, answer.shares) != Motion.none():
        return "mechanism"
    if scene_fault(road, answer.scene) is not None:
        return "scene"
    amount = scene_work(bridge, road, answer.weights, answer.scene)
    return "work" if amount != answer.work or amount <= allowance(limits, answer.shares) else None


def limited_fault(bridge, road, limits, answer):
    """Return what is wrong with an answer of limited_verdict, or None."""
    check_road(bridge, road)
    check_limits(limits)
    if isinstance(answer, LimitedUnsafe):
        return _limited_unsafe_fault(bridge, road, limits, answer)
    return _limited_safe_fault(bridge, road, limits, answer.papers)
