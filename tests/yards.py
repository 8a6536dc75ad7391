"""Yards, and a plain search for what makes a span fall."""

import itertools

from fourhinges.bridge import Bridge
from fourhinges.forces import Force
from fourhinges.loads import Load
from fourhinges.road import Road
from fourhinges.rules import Rule
from fourhinges.stands import bears
from fourhinges.yard import Yard, spans
from tests.roads import random_borders, random_cart
from tests.samples import borne_load, random_bridge


def all_stages(stones):
    """All stages of a yard of so many stones."""
    laid = [(left, right) for left in range(stones + 1) for right in range(stones + 1)
            if left + right < stones or (left, right) == (stones, 0)]
    frames = [some for size in range(stones + 1) for some in itertools.combinations(range(stones), size)]
    return [(left, right, some) for left, right in laid for some in frames]


def random_yard(rng, stones=None, hoist=True):
    stones = rng.randint(1, 3) if stones is None else stones
    bridge = random_bridge(rng, stones, 3)
    if rng.random() < 0.7:
        bridge = bridge.with_own((bridge.own + borne_load(rng, bridge)) * rng.choice((1, 5)))
    cart = random_cart(rng, "hoist", 2, 4) if hoist else None
    return Yard(bridge, random_borders(rng, stones, 2), cart)


def hoist_stands(yard, stage):
    """All ways in which the hoist may stand near the road, as (front, stones); also away, as (None, None)."""
    left, right, _ = stage
    stones = yard.bridge.stones
    found = [(None, None)]
    if yard.hoist is None:
        return found
    road = Road(yard.borders, (Rule((yard.hoist,), ()),))
    for front in range(yard.borders[0] - 1, yard.borders[-1] + yard.hoist.length + 2):
        choices = [[stone for stone in road.stones_at(front - distance)
                    if stone is None or stone < left or stone >= stones - right]
                   for distance, _ in yard.hoist.wheels]
        found.extend((front, tuple(chosen)) for chosen in itertools.product(*choices))
    return found


def forces_with(yard, front, chosen):
    """The force on each stone with the hoist standing like this."""
    forces = list(yard.bridge.own)
    if front is not None:
        for (distance, weight), stone in zip(yard.hoist.wheels, chosen):
            if stone is not None:
                forces[stone] = forces[stone] + Force.hanging(weight, front - distance)
    return forces


def span_stands(bridge, span, forces):
    """Whether a span stands under the forces on all stones, by the words of the document."""
    first, last, left_firm, right_firm = span
    if left_firm and right_firm:
        part = Bridge(bridge.joints[first:last + 2])
        return bears(part, Load(forces[first:last + 1]))
    if left_firm:
        pushes = {at: -sum(forces[at:last + 1], Force.none()) for at in range(first, last + 1)}
    else:
        pushes = {at: sum(forces[first:at], Force.none()) for at in range(first + 1, last + 2)}
    return all(push.about(bridge.joints[at][0]) <= 0 <= push.about(bridge.joints[at][1])
               for at, push in pushes.items())


def second_stands(yard, stage):
    """Whether a stage stands, by trying every place of the hoist and every choice of stones."""
    return all(span_stands(yard.bridge, span, forces_with(yard, *stand))
               for stand in hoist_stands(yard, stage) for span in spans(yard, stage))
