"""Whole numbers within bounds, and ratios of whole numbers."""

from math import gcd

from fourhinges.errors import BadRatio
from fourhinges.kinds import is_number


def is_whole(thing, low, high):
    """Say whether a thing is a whole number from low to high."""
    return is_number(thing) and low <= thing <= high


def ratio(top, bottom):
    """Return the ratio of two whole numbers, in lowest terms."""
    if bottom == 0:
        raise BadRatio()
    divisor = gcd(top, bottom)
    if bottom < 0:
        divisor = -divisor
    return (top // divisor, bottom // divisor)


def compare_ratios(one, other):
    """Return -1, 0 or 1 if one is below, equal to or above the other."""
    # Both bottoms are above 0, so the order stays when both are multiplied away.
    difference = one[0] * other[1] - other[0] * one[1]
    if difference < 0:
        return -1
    return 1 if difference > 0 else 0


def ratio_sum(one, other):
    """Return the sum of two ratios."""
    return ratio(one[0] * other[1] + other[0] * one[1], one[1] * other[1])


def ratio_product(one, other):
    """Return the product of two ratios."""
    return ratio(one[0] * other[0], one[1] * other[1])
