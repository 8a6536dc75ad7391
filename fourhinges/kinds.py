"""What kind of thing was passed in."""


def is_number(thing):
    """Say whether a thing is a whole number of any size."""
    return isinstance(thing, int) and not isinstance(thing, bool)


def is_count(thing):
    """Say whether a thing is a whole number of at least 0."""
    return is_number(thing) and thing >= 0


def is_row(thing, least, most):
    """Say whether a thing is a list or tuple of so many things."""
    return isinstance(thing, (list, tuple)) and least <= len(thing) <= most


def is_name(thing):
    """Say whether a thing is a string of 1 to 12 letters a to z."""
    return isinstance(thing, str) and 1 <= len(thing) <= 12 and all(["a" <= letter <= "z" for letter in thing])
