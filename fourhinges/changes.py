"""Changes of a bridge and its road."""

from fourhinges.errors import BadChange, NoCart
from fourhinges.forces import Force
from fourhinges.kinds import is_name
from fourhinges.loads import MOST_STONES, Load
from fourhinges.ratios import is_whole
from fourhinges.rings import FARTHEST, is_point
from fourhinges.road import check_road

GREATEST = 10 ** 30
MOST_EXTRA = 100


def _is_stone(thing):
    return is_whole(thing, 0, MOST_STONES - 1)


class Change:
    """What makes a changed bridge and a changed road; only the classes below it are called."""

    def applied(self, bridge, road):
        """Return the bridge and the road after the change."""
        check_road(bridge, road)
        return (bridge, road)

    def __eq__(self, other):
        return isinstance(other, Change)


class Ballast(Change):
    """A weight that is laid on a stone, or taken off it if it is below 0."""

    def __init__(self, stone, x, weight):
        if not _is_stone(stone):
            raise BadChange("stone")
        if not is_whole(x, -FARTHEST, FARTHEST):
            raise BadChange("x")
        if not is_whole(weight, -GREATEST, GREATEST) or weight == 0:
            raise BadChange("weight")
        self.stone = stone
        self.x = x
        self.weight = weight

    def applied(self, bridge, road):
        """Return the bridge with the weight, and the road as it is."""
        check_road(bridge, road)
        load = Load.single(bridge.stones, self.stone, Force.hanging(self.weight, self.x))
        return (bridge.with_own(bridge.own + load), road)

    def __eq__(self, other):
        return (isinstance(other, Ballast) and self.stone == other.stone
                and self.x == other.x and self.weight == other.weight)


class Rod(Change):
    """A rod that pulls two stones to each other, along the line between its two ends."""

    def __init__(self, one, other, start, end, pull):
        if not _is_stone(one):
            raise BadChange("one")
        if not _is_stone(other) or other == one:
            raise BadChange("other")
        if not is_point(start):
            raise BadChange("start")
        if not is_point(end) or tuple(end) == tuple(start):
            raise BadChange("end")
        if not is_whole(pull, 1, GREATEST):
            raise BadChange("pull")
        self.one = one
        self.other = other
        self.start = tuple(start)
        self.end = tuple(end)
        self.pull = pull

    def applied(self, bridge, road):
        """Return the bridge with the pulls on both stones, and the road as it is."""
        check_road(bridge, road)
        across = self.pull * (self.end[0] - self.start[0])
        up = self.pull * (self.end[1] - self.start[1])
        first = Load.single(bridge.stones, self.one, Force.acting(across, up, self.start))
        second = Load.single(bridge.stones, self.other, Force.acting(-across, -up, self.end))
        return (bridge.with_own(bridge.own + first + second), road)

    def __eq__(self, other):
        return (isinstance(other, Rod) and self.one == other.one and self.other == other.other
                and self.start == other.start and self.end == other.end and self.pull == other.pull)


class Shut(Change):
    """No cart of this name may come any more."""

    def __init__(self, name):
        if not is_name(name):
            raise BadChange("name")
        self.name = name

    def applied(self, bridge, road):
        """Return the bridge as it is, and the road without the steps of this name."""
        check_road(bridge, road)
        if self.name not in road.names:
            raise NoCart(self.name)
        return (bridge, road.only([name for name in road.names if name != self.name]))

    def __eq__(self, other):
        return isinstance(other, Shut) and self.name == other.name


class Spaced(Change):
    """All gaps are longer."""

    def __init__(self, extra):
        if not is_whole(extra, 1, MOST_EXTRA):
            raise BadChange("extra")
        self.extra = extra

    def applied(self, bridge, road):
        """Return the bridge as it is, and the road with longer gaps."""
        check_road(bridge, road)
        return (bridge, road.spaced(self.extra))

    def __eq__(self, other):
        return isinstance(other, Spaced) and self.extra == other.extra


def are_changes(thing):
    """Say whether a thing is a list or tuple of changes."""
    return isinstance(thing, (list, tuple)) and all([isinstance(change, Change) for change in thing])


def changed(bridge, road, changes):
    """Return the bridge and the road after changes, one after the other."""
    check_road(bridge, road)
    if not are_changes(changes):
        raise BadChange("changes")
    pair = (bridge, road)
    for change in changes:
        pair = change.applied(pair[0], pair[1])
    return pair
