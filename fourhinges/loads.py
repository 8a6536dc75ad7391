"""Loads: one force for each stone."""

from fourhinges.errors import BadLoad, NoJoint, NoStone, OtherSize
from fourhinges.forces import Force
from fourhinges.kinds import is_row
from fourhinges.ratios import is_whole

MOST_STONES = 8


def sums_before(load):
    """Return, for each joint from the left, the sum of the forces on the stones before it."""
    sums = [Force.none()]
    for force in load:
        sums.append(sums[-1] + force)
    return sums


def _check_stones(stones):
    if not is_whole(stones, 1, MOST_STONES):
        raise BadLoad("count")


class Load:
    """One force for each stone, from the left."""

    def __init__(self, forces):
        if not is_row(forces, 1, MOST_STONES):
            raise BadLoad("count")
        if not all([isinstance(force, Force) for force in forces]):
            raise BadLoad("force")
        self.forces = tuple(forces)

    @classmethod
    def none(cls, stones):
        """Return the load without any force."""
        _check_stones(stones)
        return cls([Force.none() for _ in range(stones)])

    @classmethod
    def single(cls, stones, stone, force):
        """Return the load with one force on one stone."""
        _check_stones(stones)
        if not is_whole(stone, 0, stones - 1):
            raise NoStone(stone)
        return cls([force if at == stone else Force.none() for at in range(stones)])

    def before(self, joint):
        """Return the sum of the forces on the stones before a joint."""
        if not is_whole(joint, 0, len(self.forces)):
            raise NoJoint(joint)
        return sums_before(self)[joint]

    def __getitem__(self, at):
        if not is_whole(at, 0, len(self.forces) - 1):
            raise NoStone(at)
        return self.forces[at]

    def __len__(self):
        return len(self.forces)

    def __iter__(self):
        return iter(self.forces)

    def __add__(self, other):
        if len(self.forces) != len(other.forces):
            raise OtherSize()
        return Load([one + two for one, two in zip(self.forces, other.forces)])

    def __sub__(self, other):
        if len(self.forces) != len(other.forces):
            raise OtherSize()
        return Load([one - two for one, two in zip(self.forces, other.forces)])

    def __neg__(self):
        return Load([-force for force in self.forces])

    def __mul__(self, other):
        return Load([force * other for force in self.forces])

    def __eq__(self, other):
        return isinstance(other, Load) and self.forces == other.forces
