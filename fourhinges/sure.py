"""How much push a motion of the left ground surely meets, whatever stands on the road."""

from fourhinges.errors import NotSafe
from fourhinges.greatest import Endless, endless_force
from fourhinges.ratios import compare_ratios, ratio
from fourhinges.road import check_road
from fourhinges.supports import supports
from fourhinges.traffic import first_unsafe
from fourhinges.weights import corner_works, work_by_corners
from fourhinges.worst import Worst


class Sure:
    """The least greatest measure over all scenes, the support that shows it, and a scene that has it."""

    def __init__(self, amount, weights, parts, scene):
        self.amount = amount
        self.weights = weights
        self.parts = parts
        self.scene = scene


class FixedRange:
    """The numbers that the measure can keep under every scene; None where there is no end."""

    def __init__(self, low, high):
        self.low = low
        self.high = high

    @property
    def is_empty(self):
        """Say whether no number fits."""
        return self.low is not None and self.high is not None and compare_ratios(self.low, self.high) > 0

    def fits(self, number):
        """Say whether a ratio is one of the numbers."""
        if self.low is not None and compare_ratios(number, self.low) < 0:
            return False
        return self.high is None or compare_ratios(number, self.high) <= 0


def _check_safe(bridge, road):
    check_road(bridge, road)
    unsafe = first_unsafe(bridge, road)
    if unsafe is not None:
        raise NotSafe(unsafe.mechanism)


def _sure(bridge, road, motion):
    """Return the Sure of a motion, or None if it has no support; the road is safe."""
    own = corner_works(bridge, bridge.own)
    least = None
    for weights, parts in supports(bridge, motion):
        worst = Worst(bridge, road, weights)
        amount = ratio(-work_by_corners(own, weights) - worst.carts_work(), parts)
        if least is None or compare_ratios(amount, least.amount) < 0:
            least = Sure(amount, weights, parts, worst.standing_scene())
    return least


def sure(bridge, road, motion):
    """Return the least greatest measure of a motion over all scenes of a safe road as a Sure, or Endless."""
    _check_safe(bridge, road)
    found = _sure(bridge, road, motion)
    return Endless(endless_force(bridge, motion)) if found is None else found


def fixed_range(bridge, road, motion):
    """Return the numbers that the measure of a motion can keep under every scene, as a FixedRange."""
    _check_safe(bridge, road)
    above, below = _sure(bridge, road, motion), _sure(bridge, road, -motion)
    low = None if below is None else (-below.amount[0], below.amount[1])
    return FixedRange(low, None if above is None else above.amount)
