"""Small motions of stones and of the ground."""

from fourhinges.errors import BadMotion
from fourhinges.kinds import is_number
from fourhinges.ratios import ratio


class Motion:
    """A turn about the origin together with a shift of the origin."""

    def __init__(self, turn, across, up):
        if not is_number(turn) or not is_number(across) or not is_number(up):
            raise BadMotion()
        self.turn = turn
        self.across = across
        self.up = up

    @classmethod
    def none(cls):
        """Return the motion with three zeros."""
        return cls(0, 0, 0)

    @classmethod
    def turning(cls, point, turn=1):
        """Return the motion that turns about a point."""
        x, y = point
        return cls(turn, turn * y, -turn * x)

    @property
    def is_none(self):
        """Say whether all three numbers are 0."""
        return self.turn == 0 and self.across == 0 and self.up == 0

    def at(self, point):
        """Return the velocity of a point."""
        x, y = point
        return (self.across - self.turn * y, self.up + self.turn * x)

    def measure(self, force):
        """Return the measure of the motion on a force."""
        return self.turn * force.moment + self.across * force.across + self.up * force.up

    def measure_of(self, thrust):
        """Return the measure of the motion on a thrust, as a ratio."""
        return ratio(self.measure(thrust.force), thrust.parts)

    def __add__(self, other):
        return Motion(self.turn + other.turn, self.across + other.across, self.up + other.up)

    def __sub__(self, other):
        return Motion(self.turn - other.turn, self.across - other.across, self.up - other.up)

    def __neg__(self):
        return Motion(-self.turn, -self.across, -self.up)

    def __mul__(self, other):
        return Motion(self.turn * other, self.across * other, self.up * other)

    def __eq__(self, other):
        return (isinstance(other, Motion) and self.turn == other.turn
                and self.across == other.across and self.up == other.up)
