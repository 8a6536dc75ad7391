"""Kinds of carts."""

from fourhinges.errors import BadCart
from fourhinges.kinds import is_name, is_row
from fourhinges.ratios import is_whole

LONGEST = 200
MOST_WHEELS = 4
GREATEST_WEIGHT = 10 ** 30


def _is_wheel(thing, length):
    return is_row(thing, 2, 2) and is_whole(thing[0], 0, length) and is_whole(thing[1], 1, GREATEST_WEIGHT)


class Cart:
    """A kind of cart: its name, its length, and each wheel's distance from the front and weight."""

    def __init__(self, name, wheels, length):
        if not is_name(name):
            raise BadCart("name")
        if not is_whole(length, 0, LONGEST):
            raise BadCart("length")
        if not is_row(wheels, 1, MOST_WHEELS):
            raise BadCart("wheels")
        if not all([_is_wheel(wheel, length) for wheel in wheels]):
            raise BadCart("wheel")
        self.name = name
        self.wheels = tuple([tuple(wheel) for wheel in wheels])
        self.length = length

    @property
    def total_weight(self):
        """Return the sum of the weights of the wheels."""
        return sum([weight for _, weight in self.wheels])

    def scaled(self, times):
        """Return the cart with its length and its distances multiplied."""
        wheels = [(distance * times, weight) for distance, weight in self.wheels]
        return Cart(self.name, wheels, self.length * times)

    def weighted(self, times):
        """Return the cart with its weights multiplied."""
        return Cart(self.name, [(distance, weight * times) for distance, weight in self.wheels], self.length)

    def __eq__(self, other):
        return (isinstance(other, Cart) and self.name == other.name
                and self.wheels == other.wheels and self.length == other.length)


def wheel_places(cart, front, way):
    """Return the place of each wheel of a cart that drives this way."""
    return [front - way * distance for distance, _ in cart.wheels]
