"""Second ways, by fractions, to what the package computes."""

import itertools
from fractions import Fraction
from math import gcd, lcm


def turns(bridge):
    """The motion about each corner, turned for an outer corner."""
    found = []
    for corner in range(bridge.corner_count):
        x, y = bridge.point(corner)
        side = (-1) ** corner
        found.append((side, side * y, -side * x))
    return found


def corner_demands(bridge, load):
    """For each corner (numbers, amount): numbers times (moment, across, up) of a passing thrust is at most amount."""
    demands = []
    for corner, numbers in enumerate(turns(bridge)):
        force = bridge.total(load).before(corner // 2)
        demands.append((numbers, -sum(n * f for n, f in zip(numbers, (force.moment, force.across, force.up)))))
    return demands


def can_be_met(demands):
    """Whether some numbers meet all demands; the numbers are taken out one by one."""
    demands = [([Fraction(n) for n in numbers], Fraction(amount)) for numbers, amount in demands]
    for place in range(len(demands[0][0])):
        free = [one for one in demands if one[0][place] == 0]
        highs = [one for one in demands if one[0][place] > 0]
        lows = [one for one in demands if one[0][place] < 0]
        for (up, most), (down, least) in itertools.product(highs, lows):
            a, b = -down[place], up[place]
            free.append(([a * x + b * y for x, y in zip(up, down)], a * most + b * least))
        demands = [one for one in free if any(one[0]) or one[1] < 0]
        if any(not any(numbers) for numbers, _ in demands):
            return False
        if not demands:
            return True
    return True


def without_equal(demands, equals):
    """The demands that are left when some must be met exactly: each of these takes out one number."""
    demands, equals = list(demands), list(equals)
    while equals:
        numbers, amount = equals.pop()
        places = [place for place, number in enumerate(numbers) if number]
        if not places:
            demands.append((numbers, -abs(amount)))
            continue

        def without(demand):
            share = Fraction(demand[0][places[0]]) / numbers[places[0]]
            return ([n - share * m for n, m in zip(demand[0], numbers)], demand[1] - share * amount)

        demands, equals = [without(one) for one in demands], [without(one) for one in equals]
    return demands


def is_borne(bridge, load=None):
    return can_be_met(corner_demands(bridge, load))


def solved(columns, wanted):
    """The only numbers with which the columns add up to the wanted one; None if there are none or several."""
    rows = [[Fraction(column[at]) for column in columns] + [Fraction(wanted[at])] for at in range(len(wanted))]
    done = 0
    for place in range(len(columns)):
        found = [row for row in range(done, len(rows)) if rows[row][place] != 0]
        if not found:
            return None
        rows[done], rows[found[0]] = rows[found[0]], rows[done]
        rows[done] = [number / rows[done][place] for number in rows[done]]
        for row in range(len(rows)):
            if row != done:
                rows[row] = [a - rows[row][place] * b for a, b in zip(rows[row], rows[done])]
        done += 1
    if any(row[-1] != 0 for row in rows[done:]):
        return None
    return [row[-1] for row in rows[:done]]


def second_supports(bridge, motion):
    """All supports as (hinges, numbers, parts), in the order of the hinges."""
    found = []
    vectors = turns(bridge)
    for size in range(4):
        for hinges in itertools.combinations(range(bridge.corner_count), size):
            shares = solved([vectors[hinge] for hinge in hinges], (motion.turn, motion.across, motion.up))
            if shares is None or any(share <= 0 for share in shares):
                continue
            parts = lcm(1, *[share.denominator for share in shares])
            numbers = [0] * bridge.corner_count
            for hinge, share in zip(hinges, shares):
                numbers[hinge] = int(share * parts)
            assert gcd(parts, *numbers) == 1
            found.append((hinges, tuple(numbers), parts))
    return sorted(found)
