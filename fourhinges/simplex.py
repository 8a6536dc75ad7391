"""The walk to a mix of the greatest goal, or to a direction in which the goal has no end.

The walk goes over the corners of the field of all mixes on which each row is at most its bound. All its numbers are
whole: they stand over one common divisor, and each division by the divisor before goes out even.
"""

from fourhinges.vectors import dot


class Walk:
    """A corner of the field, and the edges that lead away from it, each of them off one row's bound."""

    def __init__(self, goal, rows):
        width = len(goal)
        units = [[1 if at == place else 0 for at in range(width)] for place in range(width)]
        self.goal = goal
        # That no number of a mix is below 0 is said by further rows, with the bound 0, before the others.
        self.rows = [[-number for number in unit] for unit in units] + list(rows)
        # The other bounds do not matter for the answer. Being above 0 they make the mix of zeros a start,
        # and being unlike they keep the walk from standing still.
        self.bounds = [0] * width + [at * at + 1 for at in range(len(rows))]
        self.corner = [0] * width
        self.edges = units
        self.leaves = list(range(width))
        self.divisor = 1

    def rising(self, is_stuck):
        """Return the number of an edge on which the goal rises, or None."""
        rises = [dot(self.goal, edge) for edge in self.edges]
        found = [at for at, rise in enumerate(rises) if rise > 0]
        if not found:
            return None
        if is_stuck:
            return min(found, key=lambda at: self.leaves[at])
        return max(found, key=lambda at: rises[at])

    def room_to(self, row):
        """Return how far the corner is from the bound of a row, times the divisor."""
        return self.bounds[row] * self.divisor - dot(self.rows[row], self.corner)

    def first_met(self, edge):
        """Return the first row whose bound is met on the way along an edge, and the room to it; None if none is."""
        best, best_room, best_speed = None, None, None
        for at, row in enumerate(self.rows):
            speed = dot(row, self.edges[edge])
            if speed > 0:
                room = self.room_to(at)
                if best is None or room * best_speed < best_room * speed:
                    best, best_room, best_speed = at, room, speed
        return None if best is None else (best, best_room)

    def go(self, edge, row, room):
        """Go along an edge to the bound of a row."""
        way = self.edges[edge]
        speeds = [dot(self.rows[row], other) for other in self.edges]
        self.corner = self._turned(self.corner, way, speeds[edge], -room)
        turned = [self._turned(other, way, speeds[edge], speed) for other, speed in zip(self.edges, speeds)]
        turned[edge] = [-number for number in way]
        self.edges = turned
        self.leaves[edge] = row
        self.divisor = speeds[edge]

    def _turned(self, numbers, way, times, share):
        return [(number * times - share * other) // self.divisor for number, other in zip(numbers, way)]

    def row_amounts(self):
        """Return, at the end of the walk, the amount that the goal takes of each row, times the divisor."""
        width = len(self.goal)
        numbers = [0] * len(self.rows)
        for row, edge in zip(self.leaves, self.edges):
            numbers[row] = -dot(self.goal, edge)
        return numbers[width:]


def walked(goal, rows):
    """Return the walk at its end, and the number of an edge or None.

    If it is None, the rows times their amounts, all at least 0, add up in each place to at least the goal times the
    divisor. Otherwise the edge is a mix on which all rows are at most 0 and the goal is above 0.
    """
    walk = Walk(goal, rows)
    is_stuck = False
    while True:
        edge = walk.rising(is_stuck)
        if edge is None:
            return (walk, None)
        met = walk.first_met(edge)
        if met is None:
            return (walk, edge)
        row, room = met
        # Where the corner stays the same, always leaving the least row rules out going in a circle.
        is_stuck = room == 0
        walk.go(edge, row, room)
