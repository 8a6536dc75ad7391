"""Sets of numbers, written as ascending tuples."""


def _sets_from(first, count, most):
    sets = [()]
    if most > 0:
        for one in range(first, count):
            sets.extend([(one,) + more for more in _sets_from(one + 1, count, most - 1)])
    return sets


def ascending_sets(count, least, most):
    """Return all sets of so many of the numbers below count, in the order of tuples."""
    return [chosen for chosen in _sets_from(0, count, most) if len(chosen) >= least]
