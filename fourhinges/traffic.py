"""All rows of carts: whether a bridge bears every scene of a road."""

from fourhinges.choices import ascending_sets
from fourhinges.errors import NotStanding
from fourhinges.heaviest import Lane
from fourhinges.mechanisms import mechanisms
from fourhinges.ratios import compare_ratios, ratio
from fourhinges.road import check_road
from fourhinges.stands import first_fall
from fourhinges.weights import corner_works, work_by_corners
from fourhinges.workline import WorkLine
from fourhinges.worst import Worst, worst_works


class Safe:
    """The bridge bears every scene: for each mechanism the tables that show it."""

    def __init__(self, papers):
        self.papers = papers


class Unsafe:
    """A mechanism works above 0 under a scene."""

    def __init__(self, mechanism, work, scene):
        self.mechanism = mechanism
        self.work = work
        self.scene = scene


def verdict(bridge, road):
    """Return Safe if the bridge bears every scene of the road, or Unsafe with a scene that it does not bear."""
    check_road(bridge, road)
    papers = []
    for mechanism, amount, worst in worst_works(bridge, road):
        if amount > 0:
            return Unsafe(mechanism, amount, worst.standing_scene())
        papers.append((mechanism, worst.tables()))
    return Safe(tuple(papers))


def first_unsafe(bridge, road):
    """Return the Unsafe of the first mechanism that works above 0 under some scene of the road, or None."""
    for mechanism, amount, worst in worst_works(bridge, road):
        if amount > 0:
            return Unsafe(mechanism, amount, worst.standing_scene())
    return None


def is_safe(bridge, road):
    """Say whether the bridge bears every scene of the road."""
    check_road(bridge, road)
    return first_unsafe(bridge, road) is None


def factor(bridge, road):
    """Return the greatest factor of all weights of carts under which every scene is borne, or None."""
    check_road(bridge, road)
    own = corner_works(bridge, bridge.own)
    fall = first_fall(bridge, own)
    if fall is not None:
        raise NotStanding(fall.mechanism)
    least = None
    for mechanism in mechanisms(bridge):
        amount = Worst(bridge, road, mechanism).carts_work()
        if amount > 0:
            found = ratio(-work_by_corners(own, mechanism), amount)
            if least is None or compare_ratios(found, least) < 0:
                least = found
    return least


class Letting:
    """The carts of a road of which only some are let on it, under the mechanisms that all of them make work."""

    def __init__(self, bridge, road):
        own = corner_works(bridge, bridge.own)
        # Fewer carts work at most as much, so the other mechanisms need not be asked again.
        pressing = [mechanism for mechanism, amount, _ in worst_works(bridge, road) if amount > 0]
        self._road = road
        self._lines = [WorkLine(bridge, road, mechanism) for mechanism in pressing]
        self._rests = [-work_by_corners(own, mechanism) for mechanism in pressing]
        self._amounts = {}

    def _amount(self, at, lane, names):
        """Return the amount of a lane with these carts alone under a mechanism; each is found only once."""
        let = tuple([cart.name for cart in self._road.rules[lane].carts if cart.name in names])
        key = (at, lane, let)
        if key not in self._amounts:
            found = Lane(self._lines[at], self._road.only(let), lane)
            self._amounts[key] = found.row_with(found.greatest_works()).amount
        return self._amounts[key]

    def is_safe_with(self, names):
        """Say whether every scene is borne with these carts alone."""
        lanes = range(len(self._road.rules))
        for at, rest in enumerate(self._rests):
            if sum([self._amount(at, lane, names) for lane in lanes]) > rest:
                return False
        return True


def permits(bridge, road):
    """Return all greatest sets of names of carts that may be let on the road."""
    check_road(bridge, road)
    letting = Letting(bridge, road)
    names = road.names
    sets = ascending_sets(len(names), 0, len(names))
    found = []
    for size in range(len(names), -1, -1):
        for chosen in [some for some in sets if len(some) == size]:
            is_larger_safe = any([all([at in larger for at in chosen]) for larger in found])
            if not is_larger_safe and letting.is_safe_with([names[at] for at in chosen]):
                found.append(chosen)
    return tuple([tuple([names[at] for at in chosen]) for chosen in found])


def _least_gap(bridge, road, mechanism, rest, bounds):
    """Return the least extra gap, between one that is too small and one that is not, at which the carts work at most
    the rest."""
    low, high = bounds
    while high - low > 1:
        middle = (low + high) // 2
        if Worst(bridge, road.spaced(middle), mechanism).carts_work() > rest:
            low = middle
        else:
            high = middle
    return high


def least_extra_gap(bridge, road):
    """Return how much longer all gaps must be for every scene to be borne, or None if no gap is long enough."""
    check_road(bridge, road)
    own = corner_works(bridge, bridge.own)
    most = road.borders[-1] - road.borders[0]
    least = 0
    for mechanism in mechanisms(bridge):
        rest = -work_by_corners(own, mechanism)
        if Worst(bridge, road.spaced(least), mechanism).carts_work() > rest:
            # With the greatest extra gap no two carts of a lane are on the bridge at one time.
            if Worst(bridge, road.spaced(most), mechanism).carts_work() > rest:
                return None
            least = _least_gap(bridge, road, mechanism, rest, (least, most))
    return least
