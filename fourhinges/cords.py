"""Cords: pulls in place of pushes."""

from fourhinges.thrust import sided_moments


def cord_barred(bridge, pull, load=None):
    """Return the least corner at which the pull does not hang as a cord, or None."""
    for corner, moment in enumerate(sided_moments(bridge, pull, load)):
        if moment < 0:
            return corner
    return None
