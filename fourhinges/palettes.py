"""Palettes: loads that are mixed."""

from fourhinges.errors import BadMix, BadPalette, OtherSize
from fourhinges.forces import Force
from fourhinges.kinds import is_count, is_number, is_row
from fourhinges.loads import Load
from fourhinges.mechanisms import mechanisms
from fourhinges.ratios import compare_ratios, ratio
from fourhinges.vectors import dot
from fourhinges.weights import check_weights, corner_works, work_by_corners

MOST_LOADS = 17


class FactorRange:
    """All factors of a load that are borne, and the mechanisms that bar those beyond the ends."""

    def __init__(self, low, high, low_by, high_by):
        self.low = low
        self.high = high
        self.low_by = low_by
        self.high_by = high_by


class Excess:
    """A mechanism that works under a mix."""

    def __init__(self, mechanism, mix, work):
        self.mechanism = mechanism
        self.mix = mix
        self.work = work


def _check_loads(palette, most):
    if not is_row(palette, 1, most):
        raise BadPalette("count")
    if not all([isinstance(load, Load) for load in palette]):
        raise BadPalette("load")


def _check_lengths(palette, stones):
    if any([len(load) != stones for load in palette]):
        raise BadPalette("size")


def check_palette(bridge, palette, most=MOST_LOADS):
    """Raise BadPalette unless a thing is a palette of the bridge."""
    _check_loads(palette, most)
    _check_lengths(palette, bridge.stones)


def check_mix(palette, mix):
    """Raise BadMix unless a thing is a mix of the palette."""
    if not is_row(mix, len(palette), len(palette)) or not all([is_count(number) for number in mix]):
        raise BadMix()


def mix_load(palette, mix):
    """Return the load of a mix."""
    _check_loads(palette, MOST_LOADS)
    _check_lengths(palette, len(palette[0]))
    check_mix(palette, mix)
    load = Load.none(len(palette[0]))
    for part, number in zip(palette, mix):
        load = load + part * number
    return load


def _are_borders(bridge, thing):
    return (is_row(thing, bridge.stones + 1, bridge.stones + 1) and all([is_number(border) for border in thing])
            and all([left < right for left, right in zip(thing, thing[1:])]))


def wheel_palette(bridge, borders):
    """Return the palette of the own load and of all wheels of weight 1 at the borders of the stones."""
    if not _are_borders(bridge, borders):
        raise BadPalette("borders")
    palette = [bridge.own]
    for stone in range(bridge.stones):
        for x in borders[stone:stone + 2]:
            palette.append(Load.single(bridge.stones, stone, Force.hanging(1, x)))
    return tuple(palette)


def _row_of(works, weights):
    return tuple([work_by_corners(part, weights) for part in works])


def work_row(bridge, weights, palette):
    """Return the work of weights under each load of a palette, without the own load."""
    check_weights(bridge, weights)
    check_palette(bridge, palette)
    return _row_of([corner_works(bridge, load) for load in palette], weights)


def work_rows(bridge, palette):
    """Return the rows of all mechanisms, in their order."""
    check_palette(bridge, palette)
    works = [corner_works(bridge, load) for load in palette]
    return tuple([_row_of(works, mechanism) for mechanism in mechanisms(bridge)])


def bears_mix(bridge, palette, mix):
    """Say whether the bridge without its own load bears a mix."""
    rows = work_rows(bridge, palette)
    check_mix(palette, mix)
    return all([dot(row, mix) <= 0 for row in rows])


def _with_works(bridge, load):
    """Return each mechanism with its work under the own load and with that under the load alone."""
    own = corner_works(bridge, bridge.own)
    extra = corner_works(bridge, load)
    return [(mechanism, work_by_corners(own, mechanism), work_by_corners(extra, mechanism))
            for mechanism in mechanisms(bridge)]


def factor_range(bridge, load):
    """Return all factors of a load that the bridge bears, or None if there is none."""
    if len(load) != bridge.stones:
        raise OtherSize()
    low, high, low_by, high_by = (0, 1), None, None, None
    for mechanism, own, extra in _with_works(bridge, load):
        if extra == 0 and own > 0:
            return None
        bound = None if extra == 0 else ratio(-own, extra)
        if extra > 0 and (high is None or compare_ratios(bound, high) < 0):
            high, high_by = bound, mechanism
        if extra < 0 and compare_ratios(bound, low) > 0:
            low, low_by = bound, mechanism
    if high is not None and compare_ratios(low, high) > 0:
        return None
    return FactorRange(low, high, low_by, high_by)


def _check_bounds(palette, lows, highs):
    check_mix(palette, lows)
    check_mix(palette, highs)
    if any([low > high for low, high in zip(lows, highs)]):
        raise BadMix()


def first_excess(bridge, palette, lows, highs):
    """Return the first mechanism that works under a mix between the bounds as an Excess, or None."""
    rows = work_rows(bridge, palette)
    _check_bounds(palette, lows, highs)
    own = corner_works(bridge, bridge.own)
    for mechanism, row in zip(mechanisms(bridge), rows):
        mix = tuple([high if number > 0 else low for number, low, high in zip(row, lows, highs)])
        amount = work_by_corners(own, mechanism) + dot(row, mix)
        if amount > 0:
            return Excess(mechanism, mix, amount)
    return None
