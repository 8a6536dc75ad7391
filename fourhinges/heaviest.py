"""The row of carts that works most in a lane, and the tables that show it."""

from fourhinges.carts import wheel_places
from fourhinges.road import lane_ends
from fourhinges.workline import WorkLine


class Heaviest:
    """The greatest work of a row of carts, such a row, and stones for its wheels."""

    def __init__(self, amount, row, stones):
        self.amount = amount
        self.row = row
        self.stones = stones


class Move:
    """A cart that comes in a room: what it works at each place, how far behind it the next cart stays, the next room.

    Here and below, places are progress that is counted from the low end of the lane.
    """

    def __init__(self, kind, works, back, after):
        self.kind = kind
        self.works = works
        self.back = back
        self.after = after

    def work_with(self, numbers, place):
        """Return the work of the cart with its front at a place, plus the number of the row behind it."""
        if place < self.back:
            return self.works[place]
        return self.works[place] + numbers[self.after][place - self.back]


class Lane:
    """One lane under a work line."""

    def __init__(self, line, road, lane):
        rule = road.rule(lane)
        low, top = lane_ends(road, rule)
        fronts = [rule.way * progress for progress in range(low, top + 1)]
        works = {cart.name: [line.cart_work(cart, front, rule.way) for front in fronts] for cart in rule.carts}
        self.line = line
        self.way = rule.way
        self.low = low
        self.fronts = fronts
        self.rooms = rule.reachable
        self.moves = {room: [] for room in self.rooms}
        for room, name, gap, after in rule.steps:
            if room in self.moves:
                kind = rule.cart(name)
                self.moves[room].append(Move(kind, works[name], kind.length + gap, after))

    def greatest_works(self):
        """Return, for each room and place, the greatest work of a row whose foremost front is at most there."""
        found = {room: [] for room in self.rooms}
        for place in range(len(self.fronts)):
            for room in self.rooms:
                before = found[room][-1] if place > 0 else 0
                found[room].append(max([before] + [move.work_with(found, place) for move in self.moves[room]]))
        return found

    def row_with(self, numbers):
        """Return the row with the greatest of these works, with stones for its wheels."""
        start = max(self.rooms, key=lambda one: numbers[one][-1])
        carts, stones = [], []
        room, place = start, len(self.fronts) - 1
        while place >= 0 and numbers[room][place] > 0:
            if place > 0 and numbers[room][place - 1] == numbers[room][place]:
                place -= 1
            else:
                move = self._best_move(numbers, room, place)
                carts.append((move.kind.name, self.fronts[place]))
                stones.append(self._best_stones(move.kind, self.fronts[place]))
                room, place = move.after, place - move.back
        return Heaviest(numbers[start][-1], (start, tuple(carts)), tuple(stones))

    def _best_move(self, numbers, room, place):
        return max(self.moves[room], key=lambda move: move.work_with(numbers, place))

    def _best_stones(self, cart, front):
        return tuple([self.line.best_stone(x) for x in wheel_places(cart, front, self.way)])

    def triples(self, numbers):
        """Return numbers as the table of a room, a progress and a number each."""
        return tuple([(room, self.low + place, number)
                      for room in self.rooms for place, number in enumerate(numbers[room])])

    def table_fault(self, table):
        """Return what is wrong with a table of potentials, or None."""
        places = [(room, place) for room in self.rooms for place in range(len(self.fronts))]
        if [(room, progress - self.low) for room, progress, _ in table] != places:
            return "places"
        numbers = {room: [number for other, _, number in table if other == room] for room in self.rooms}
        for room, place in places:
            word = self._number_fault(numbers, room, place)
            if word is not None:
                return word
        return None

    def _number_fault(self, numbers, room, place):
        number = numbers[room][place]
        if number < 0:
            return "below"
        if place > 0 and number < numbers[room][place - 1]:
            return "order"
        if any([number < move.work_with(numbers, place) for move in self.moves[room]]):
            return "step"
        return None


def heaviest(bridge, road, lane, weights):
    """Return the greatest work of a row of carts in a lane, with a row that has it, as a Heaviest."""
    found = Lane(WorkLine(bridge, road, weights), road, lane)
    return found.row_with(found.greatest_works())


def potentials(bridge, road, lane, weights):
    """Return the table of the greatest work of the rows that go on from a room."""
    found = Lane(WorkLine(bridge, road, weights), road, lane)
    return found.triples(found.greatest_works())


def potentials_fault(bridge, road, lane, weights, table):
    """Return what is wrong with a table of potentials, or None."""
    return Lane(WorkLine(bridge, road, weights), road, lane).table_fault(table)


def table_most(table):
    """Return the greatest number of a table, 0 for an empty one."""
    return max([number for _, _, number in table], default=0)
