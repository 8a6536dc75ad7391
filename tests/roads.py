"""Carts, rules and roads that several tests use."""

import itertools

from fourhinges.carts import Cart
from fourhinges.road import Road
from fourhinges.rules import Rule

DRAY = Cart("dray", ((0, 8),), 0)
SINGLE = Rule((DRAY,), ((0, "dray", 30, 0),))
R = Road((0, 8, 16, 24), (SINGLE,))

VAN = Cart("van", ((0, 2), (3, 5)), 4)
GIG = Cart("gig", ((1, 3),), 1)
# A van and gigs by turns; room 2 is not reachable.
TURNS = Rule((VAN, GIG), ((0, "van", 2, 1), (1, "gig", 1, 0), (1, "van", 3, 3), (2, "gig", 1, 1)))


def random_cart(rng, name, longest=3, heaviest=9):
    length = rng.randint(0, longest)
    wheels = [(rng.randint(0, length), rng.randint(1, heaviest)) for _ in range(rng.randint(1, 3))]
    return Cart(name, wheels, length)


def random_rule(rng, names=("ox", "cob"), rooms=2, longest=3, gap=3, heaviest=9, way=None):
    carts = [random_cart(rng, name, longest, heaviest) for name in names]
    steps = [(room, name, rng.randint(1, gap), rng.randrange(rooms))
             for room in range(rooms) for name in names if rng.random() < 0.7]
    rng.shuffle(steps)
    return Rule(carts, steps, way if way is not None else rng.choice((1, -1)))


def random_borders(rng, stones, most=3):
    return tuple(itertools.accumulate([rng.randint(1, most) for _ in range(stones)], initial=rng.randint(-9, 9)))


def random_road(rng, stones, lanes=1, most=3, **changed):
    return Road(random_borders(rng, stones, most), [random_rule(rng, **changed) for _ in range(lanes)])


def second_reachable(rule):
    """The rooms that are reached from room 0."""
    reached = {0}
    while True:
        more = reached | {after for room, _, _, after in rule.steps if room in reached}
        if more == reached:
            return tuple(sorted(reached))
        reached = more


def is_allowed(rule, row):
    """Whether a rule allows a row, by the words of the document."""
    room, carts = row
    lengths = {cart.name: cart.length for cart in rule.carts}
    steps = {(at, name): (gap, after) for at, name, gap, after in rule.steps}
    rows = [room in second_reachable(rule)]
    gaps = []
    for name, _ in carts:
        if (room, name) not in steps:
            return False
        gap, room = steps[room, name]
        gaps.append(gap)
    for at, ((name, front), (_, behind)) in enumerate(zip(carts, carts[1:])):
        rows.append(rule.way * behind <= rule.way * front - lengths[name] - gaps[at])
    return all(rows)


def second_rows(road, lane, most):
    """All rows of a tiny road as rows_up_to has them, in its order, from all rows that there might be."""
    rule = road.rules[lane]
    ends = sorted(rule.way * border for border in (road.borders[0], road.borders[-1]))
    places = range(ends[1] + max(cart.length for cart in rule.carts), ends[0] - 1, -1)
    order = {cart.name: at for at, cart in enumerate(rule.carts)}
    single = [(name, rule.way * place) for name in order for place in places]
    found = []
    for count in range(most + 1):
        for room in range(4):
            for carts in itertools.product(single, repeat=count):
                if is_allowed(rule, (room, carts)):
                    found.append((room, carts))
    return sorted(found, key=lambda row: (row[0], [(order[name], -rule.way * front) for name, front in row[1]]))


def wheels_of(rule, name, front):
    """The place and the weight of each wheel."""
    cart = [cart for cart in rule.carts if cart.name == name][0]
    return [(front - rule.way * distance, weight) for distance, weight in cart.wheels]


def all_stones(road, rule, row):
    """All choices of stones for the wheels of a row, as for one lane of a scene."""
    carts = [list(itertools.product(*[road.stones_at(x) for x, _ in wheels_of(rule, name, front)]))
             for name, front in row[1]]
    return list(itertools.product(*carts))
