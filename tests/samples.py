"""Things that several tests use."""

import random

from fourhinges.bridge import Bridge
from fourhinges.forces import Force
from fourhinges.loads import Load
from fourhinges.thrust import Thrust
from fourhinges.weights import Weights

EJ = (((0, -1), (0, 1)), ((8, 7), (8, 9)), ((16, 7), (16, 9)), ((24, -1), (24, 1)))
E = Bridge(EJ, Load((Force.hanging(1, 4), Force.hanging(1, 12), Force.hanging(1, 20))))

# All corners in one line.
F = Bridge((((1, 0), (0, 0)), ((2, 0), (3, 0))))

# One stone without any mechanism.
WALL = Bridge((((0, 0), (0, 2)), ((8, 0), (8, 2))))

HUGE = 10 ** 40 + 7

# Nothing of this is a whole number.
NO_WHOLE = (True, False, None, "1", "", 1.0, (1,), [1], (), [], {}, b"1")


def misses(count):
    """Things that are none of the numbers 0 to count - 1."""
    return (-1, count, count + 1, -count, HUGE, slice(0, 1), slice(None)) + NO_WHOLE


def kinds_of(force):
    return (force.across, force.up, force.moment)


def numbers_of(load):
    return [kinds_of(force) for force in load]


def random_force(rng, size=9):
    return Force(*[rng.randint(-size, size) for _ in range(3)])


def random_load(rng, stones, size=9):
    return Load([random_force(rng, size) for _ in range(stones)])


def random_bridge(rng, stones, size=4):
    """A bridge on a small grid, so that shared corners and corners in line are common."""
    joints = []
    while len(joints) < stones + 1:
        inner = (rng.randint(-size, size), rng.randint(-size, size))
        outer = (rng.randint(-size, size), rng.randint(-size, size))
        if inner != outer:
            joints.append((inner, outer))
    return Bridge(joints, random_load(rng, stones))


def random_thrust(rng, size=9):
    return Thrust(random_force(rng, size), rng.randint(1, 4))


def random_weights(rng, bridge, most=5):
    return Weights([rng.choice((0, rng.randint(0, most))) for _ in range(bridge.corner_count)])


def random_bridges(seed, count, most_stones=5, size=4):
    rng = random.Random(seed)
    return [random_bridge(rng, rng.randint(1, most_stones), size) for _ in range(count)]


def line_bridge(rng, stones, size=6):
    """A bridge with all corners in one line."""
    joints = []
    while len(joints) < stones + 1:
        inner, outer = rng.randint(-size, size), rng.randint(-size, size)
        if inner != outer:
            joints.append(((2 * inner, inner + 1), (2 * outer, outer + 1)))
    return Bridge(joints, random_load(rng, stones))


def passing_force(rng, joint, size=9):
    """A force that passes a joint."""
    inner, outer = joint
    while True:
        force = random_force(rng, size)
        if force.about(inner) <= 0 <= force.about(outer):
            return force


def borne_load(rng, bridge, size=9):
    """A load that is borne together with the own load, made from pushes that pass."""
    pushes = [passing_force(rng, joint, size) for joint in bridge.joints]
    return Load([after - before for before, after in zip(pushes, pushes[1:])]) - bridge.own


def other_in_one(rng, load, size=30):
    """A load that differs from another one in one force."""
    return load + Load.single(len(load), rng.randrange(len(load)), random_force(rng, size))


def small_bridges(seed, count):
    """Bridges of one to three stones; some have all corners in one line."""
    rng = random.Random(seed)
    return [(line_bridge if at % 5 == 0 else random_bridge)(rng, rng.randint(1, 3)) for at in range(count)]


def arch(stones, spread=40, rise=30, thick=6):
    """An arch whose stones weigh 10 each."""
    joints = []
    for joint in range(stones + 1):
        x = spread * joint
        y = rise * joint * (stones - joint)
        joints.append(((x, y), (x - thick * (stones - 2 * joint), y + 4 * thick)))
    return Bridge(joints, Load([Force.hanging(10, spread * stone + spread // 2) for stone in range(stones)]))
