"""Yards: bridges that are being built, and the spans of their stages."""

from fourhinges.bridge import Bridge
from fourhinges.carts import Cart
from fourhinges.errors import BadStage, BadYard
from fourhinges.kinds import is_row
from fourhinges.ratios import is_whole
from fourhinges.rings import FARTHEST
from fourhinges.road import LONGEST_ROAD

MOST_YARD_STONES = 5


def _are_yard_borders(thing, count):
    return (is_row(thing, count, count) and all([is_whole(border, -FARTHEST, FARTHEST) for border in thing])
            and all([left < right for left, right in zip(thing, thing[1:])])
            and thing[-1] - thing[0] <= LONGEST_ROAD)


class Yard:
    """A bridge that is being built, the borders of its road, and the hoist that drives on what is built."""

    def __init__(self, bridge, borders, hoist=None):
        if not isinstance(bridge, Bridge) or bridge.stones > MOST_YARD_STONES:
            raise BadYard("bridge")
        if not _are_yard_borders(borders, bridge.stones + 1):
            raise BadYard("borders")
        if hoist is not None and not isinstance(hoist, Cart):
            raise BadYard("hoist")
        self.bridge = bridge
        self.borders = tuple(borders)
        self.hoist = hoist


def _are_laid(stones, left, right):
    return (is_whole(left, 0, stones) and is_whole(right, 0, stones)
            and (left + right < stones or (left == stones and right == 0)))


def _are_frames(stones, thing):
    return (is_row(thing, 0, stones) and all([is_whole(stone, 0, stones - 1) for stone in thing])
            and all([one < other for one, other in zip(thing, thing[1:])]))


def checked_stage(yard, stage):
    """Return a stage of the yard with tuples in place of its lists; raise BadStage if it is none."""
    stones = yard.bridge.stones
    if not is_row(stage, 3, 3):
        raise BadStage()
    left, right, frames = stage
    if not _are_laid(stones, left, right) or not _are_frames(stones, frames):
        raise BadStage()
    return (left, right, tuple(frames))


def laid_stones(yard, stage):
    """Return the stones that are laid, ascending."""
    stones = yard.bridge.stones
    return [stone for stone in range(stones) if stone < stage[0] or stone >= stones - stage[1]]


def spans(yard, stage):
    """Return the spans of a stage: the first and the last stone of each, and whether its two ends are firm."""
    checked = checked_stage(yard, stage)
    laid = laid_stones(yard, checked)
    free = [stone for stone in laid if stone not in checked[2]]
    starts = [stone for stone in free if stone - 1 not in free]
    ends = [stone for stone in free if stone + 1 not in free]
    last = yard.bridge.stones - 1
    return tuple([(start, end, start == 0 or start - 1 in laid, end == last or end + 1 in laid)
                  for start, end in zip(starts, ends)])
