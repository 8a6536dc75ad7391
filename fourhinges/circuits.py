"""Circuits: vectors of three numbers that add up to none with amounts above 0, and of which none can be spared."""

from fourhinges.choices import ascending_sets
from fourhinges.vectors import cross, dot
from fourhinges.weights import common_divisor

MOST_PLACES = 4


def _volumes(vectors):
    """Return the volume of each three of the vectors, by their places."""
    return {(one, two, three): dot(vectors[one], cross(vectors[two], vectors[three]))
            for one, two, three in ascending_sets(len(vectors), 3, 3)}


def _pair_shares(one, two):
    return (-dot(one, two), dot(one, one)) if cross(one, two) == (0, 0, 0) else (0, 0)


def _flat_shares(one, two, three):
    across = cross(one, two)
    return (dot(cross(two, three), across), dot(cross(three, one), across), dot(across, across))


def _shares(vectors, volumes, places):
    """Return the amounts with which the vectors at these places add up to none, of any sign.

    Amounts with a 0 stand for vectors of which some can be spared, or that do not add up to none.
    """
    chosen = [vectors[place] for place in places]
    if len(places) == 1:
        return (1,) if chosen[0] == (0, 0, 0) else (0,)
    if len(places) == 2:
        return _pair_shares(chosen[0], chosen[1])
    if len(places) == 3:
        return _flat_shares(chosen[0], chosen[1], chosen[2]) if volumes[places] == 0 else (0, 0, 0)
    one, two, three, four = places
    return (volumes[(two, three, four)], -volumes[(one, three, four)],
            volumes[(one, two, four)], -volumes[(one, two, three)])


def _is_one_sided(amounts):
    return all([amount > 0 for amount in amounts]) or all([amount < 0 for amount in amounts])


def circuits(vectors):
    """Return all circuits in the order of their places, each as one amount for each vector in lowest terms."""
    volumes = _volumes(vectors)
    found = []
    for places in ascending_sets(len(vectors), 1, MOST_PLACES):
        amounts = _shares(vectors, volumes, places)
        if _is_one_sided(amounts):
            divisor = common_divisor(amounts)
            numbers = [0] * len(vectors)
            for place, amount in zip(places, amounts):
                numbers[place] = abs(amount) // divisor
            found.append(tuple(numbers))
    return found
