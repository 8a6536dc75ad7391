"""Balanced weights as sums of mechanisms."""

from fourhinges.errors import Unbalanced
from fourhinges.mechanisms import mechanisms
from fourhinges.ratios import ratio
from fourhinges.weights import common_divisor, motion_of


def _scarcest(rest, mechanism):
    """Return the hinge at which the rest allows the least share of the mechanism."""
    least = mechanism.hinges[0]
    for hinge in mechanism.hinges:
        if rest[hinge] * mechanism[least] < rest[least] * mechanism[hinge]:
            least = hinge
    return least


def _taken(rest, parts, mechanism):
    """Take the greatest share of a mechanism; return the share, the rest and the parts of the rest."""
    hinge = _scarcest(rest, mechanism)
    unit = mechanism[hinge]
    left = [number * unit - rest[hinge] * used for number, used in zip(rest, mechanism.numbers)]
    divisor = common_divisor([parts * unit] + left)
    return (ratio(rest[hinge], parts * unit), [number // divisor for number in left], parts * unit // divisor)


def parted(bridge, weights):
    """Return balanced weights as a sum of mechanisms: pairs of a share and a mechanism."""
    if not motion_of(bridge, weights).is_none:
        raise Unbalanced()
    pairs = []
    rest, parts = list(weights.numbers), 1
    # One pass is enough: each share uses up a hinge, and the hinges of the rest only become fewer.
    for mechanism in mechanisms(bridge):
        if all([rest[hinge] > 0 for hinge in mechanism.hinges]):
            share, rest, parts = _taken(rest, parts, mechanism)
            pairs.append((share, mechanism))
    return tuple(pairs)
