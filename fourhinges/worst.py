"""The scene of a road under which weights work most."""

from fourhinges.heaviest import Lane
from fourhinges.mechanisms import mechanisms
from fourhinges.scenes import Scene
from fourhinges.weights import corner_works, work_by_corners
from fourhinges.workline import WorkLine


class Worst:
    """The heaviest row of each lane of a road under weights of a bridge, and the tables that show it."""

    def __init__(self, bridge, road, weights):
        line = WorkLine(bridge, road, weights)
        self._lanes = [Lane(line, road, lane) for lane in range(len(road.rules))]
        self._potentials = [lane.greatest_works() for lane in self._lanes]
        self._heaviest = [lane.row_with(numbers) for lane, numbers in zip(self._lanes, self._potentials)]

    def carts_work(self):
        """Return the sum of the amounts of all lanes."""
        return sum([found.amount for found in self._heaviest])

    def tables(self):
        """Return the table of potentials of each lane."""
        return tuple([lane.triples(numbers) for lane, numbers in zip(self._lanes, self._potentials)])

    def standing_scene(self):
        """Return a scene under which the carts work so much."""
        return Scene([found.row for found in self._heaviest], [found.stones for found in self._heaviest])


def worst_works(bridge, road):
    """Yield each mechanism of a bridge, its greatest work over all scenes of the road, and its Worst."""
    own = corner_works(bridge, bridge.own)
    for mechanism in mechanisms(bridge):
        worst = Worst(bridge, road, mechanism)
        yield (mechanism, work_by_corners(own, mechanism) + worst.carts_work(), worst)
