"""Forces in the plane."""

from fourhinges.errors import BadForce
from fourhinges.kinds import is_number


class Force:
    """A force: its parts to the right and upwards, and its moment about the origin."""

    def __init__(self, across, up, moment):
        if not is_number(across):
            raise BadForce("across")
        if not is_number(up):
            raise BadForce("up")
        if not is_number(moment):
            raise BadForce("moment")
        self.across = across
        self.up = up
        self.moment = moment

    @classmethod
    def none(cls):
        """Return the force with three zeros."""
        return cls(0, 0, 0)

    @classmethod
    def hanging(cls, weight, x):
        """Return a weight that hangs at x."""
        return cls(0, -weight, -weight * x)

    @classmethod
    def acting(cls, across, up, point):
        """Return the force with these parts that acts at a point."""
        x, y = point
        return cls(across, up, x * up - y * across)

    @property
    def is_none(self):
        """Say whether all three numbers are 0."""
        return self.across == 0 and self.up == 0 and self.moment == 0

    def about(self, point):
        """Return the moment about a point."""
        x, y = point
        return self.moment - x * self.up + y * self.across

    def __add__(self, other):
        return Force(self.across + other.across, self.up + other.up, self.moment + other.moment)

    def __sub__(self, other):
        return Force(self.across - other.across, self.up - other.up, self.moment - other.moment)

    def __neg__(self):
        return Force(-self.across, -self.up, -self.moment)

    def __mul__(self, other):
        return Force(self.across * other, self.up * other, self.moment * other)

    def __eq__(self, other):
        return (isinstance(other, Force) and self.across == other.across
                and self.up == other.up and self.moment == other.moment)
