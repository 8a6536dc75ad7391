"""Rules: which rows of carts a lane allows."""

from fourhinges.carts import Cart
from fourhinges.errors import BadRule, NoCart
from fourhinges.kinds import is_number, is_row
from fourhinges.ratios import is_whole

LAST_ROOM = 3
MOST_CARTS = 4
MOST_STEPS = 16


def _check_carts(carts):
    if not is_row(carts, 1, MOST_CARTS) or not all([isinstance(cart, Cart) for cart in carts]):
        raise BadRule("carts", None)
    names = [cart.name for cart in carts]
    for index, name in enumerate(names):
        if name in names[:index]:
            raise BadRule("name", index)


def _check_step(names, earlier, step):
    """Raise BadRule, with the count of the earlier steps as index, unless the step may follow them."""
    index = len(earlier)
    if not is_row(step, 4, 4):
        raise BadRule("step", index)
    room, name, gap, after = step
    if not is_whole(room, 0, LAST_ROOM):
        raise BadRule("room", index)
    if name not in names:
        raise BadRule("cart", index)
    if not is_number(gap) or gap < 1:
        raise BadRule("gap", index)
    if not is_whole(after, 0, LAST_ROOM):
        raise BadRule("next", index)
    if (room, name) in [(other[0], other[1]) for other in earlier]:
        raise BadRule("double", index)


def _checked_steps(carts, steps):
    if not is_row(steps, 0, MOST_STEPS):
        raise BadRule("steps", None)
    names = [cart.name for cart in carts]
    checked = []
    for step in steps:
        _check_step(names, checked, step)
        checked.append(tuple(step))
    return tuple(checked)


class Rule:
    """The carts of a lane, the steps by which they follow each other, and the way that they drive."""

    def __init__(self, carts, steps, way=1):
        _check_carts(carts)
        if not is_number(way) or way not in (1, -1):
            raise BadRule("way", None)
        self.carts = tuple(carts)
        self.steps = _checked_steps(carts, steps)
        self.way = way

    @property
    def reachable(self):
        """Return the rooms that are reached from room 0 by any number of steps."""
        reached = [0]
        # No room is more steps away than there are other rooms.
        for _ in range(LAST_ROOM):
            reached = reached + [after for room, _, _, after in self.steps if room in reached]
        return tuple([room for room in range(LAST_ROOM + 1) if room in reached])

    def cart(self, name):
        """Return the cart of this name."""
        for cart in self.carts:
            if cart.name == name:
                return cart
        raise NoCart(name)

    def step(self, room, name):
        """Return the gap behind a cart that comes in a room and the next room, or None."""
        for at, other, gap, after in self.steps:
            if at == room and other == name:
                return (gap, after)
        return None

    def only(self, names):
        """Return the rule with the steps of these names alone."""
        return Rule(self.carts, [step for step in self.steps if step[1] in names], self.way)

    def weighted(self, times):
        """Return the rule with all weights of its carts multiplied."""
        return Rule([cart.weighted(times) for cart in self.carts], self.steps, self.way)

    def scaled(self, times):
        """Return the rule with its carts scaled and all gaps multiplied."""
        carts = [cart.scaled(times) for cart in self.carts]
        return Rule(carts, [(room, name, gap * times, after) for room, name, gap, after in self.steps], self.way)

    def spaced(self, extra):
        """Return the rule with all gaps longer."""
        steps = [(room, name, gap + extra, after) for room, name, gap, after in self.steps]
        return Rule(self.carts, steps, self.way)

    def turned(self):
        """Return the rule for the other way."""
        return Rule(self.carts, self.steps, -self.way)

    def __eq__(self, other):
        return (isinstance(other, Rule) and self.carts == other.carts
                and self.steps == other.steps and self.way == other.way)


def row_fault(rule, row):
    """Return None for a row of carts that the rule allows, and what is wrong otherwise."""
    room, carts = row
    if room not in rule.reachable:
        return (None, "room")
    highest = None
    for index, (name, front) in enumerate(carts):
        step = rule.step(room, name)
        if step is None:
            return (index, "step")
        if highest is not None and rule.way * front > highest:
            return (index, "gap")
        gap, room = step
        highest = rule.way * front - rule.cart(name).length - gap
    return None


class Trail:
    """A row of carts of one rule, and the rooms in which another rule may go on with the same row.

    Each cart comes as close as its own rule lets it: if the other rule allows such a row, it allows every longer one.
    """

    def __init__(self, start, carts, room, progress, others):
        self.start = start
        self.carts = carts
        self.room = room
        self.progress = progress
        self.others = others


def _followed(one, other, trail, step):
    """Return the trail with one more step, and whether the other rule allows its row."""
    _, name, gap, after = step
    back = one.cart(name).length + gap
    found = [other.step(room, name) for room in trail.others]
    allowed = [pair for pair in found if pair is not None]
    rooms = [its_after for its_gap, its_after in allowed if other.cart(name).length + its_gap <= back]
    others = tuple([room for room in range(LAST_ROOM + 1) if room in rooms])
    carts = trail.carts + ((name, one.way * trail.progress),)
    return (Trail(trail.start, carts, after, trail.progress - back, others), len(allowed) > 0)


def _followers(one, other, trail):
    return [_followed(one, other, trail, step) for step in one.steps if step[0] == trail.room]


def _unlike(seen, trails):
    """Return the trails that can go on as none of those seen can, and write down that they are seen."""
    fresh = []
    for trail in trails:
        key = (trail.room, trail.others)
        if key not in seen:
            seen[key] = True
            fresh.append(trail)
    return fresh


def row_beyond(one, other):
    """Return a shortest row of carts that the one rule allows and the other one does not, or None."""
    if one.way != other.way:
        raise BadRule("way", None)
    seen = {}
    trails = [Trail(room, (), room, 0, other.reachable) for room in one.reachable]
    while trails:
        followed = [pair for trail in trails for pair in _followers(one, other, trail)]
        for trail, is_allowed in followed:
            if not is_allowed:
                return (trail.start, trail.carts)
        trails = _unlike(seen, [trail for trail, _ in followed])
    return None
