"""Roads as texts."""

from fourhinges.carts import Cart
from fourhinges.road import Road
from fourhinges.rules import Rule
from fourhinges.texts import check_word_count, first_words, number_words, read_numbers

# The words that may begin the row behind a row with this first word.
AFTER = {"road": ("lane",), "lane": ("cart",), "cart": ("cart", "step", "lane"), "step": ("step", "lane")}

# The counts of words that a row with this first word may have.
COUNTS = {"road": (3, 4, 5, 6, 7, 8, 9, 10), "lane": (2,), "cart": (5, 7, 9, 11), "step": (5,)}


def _cart_row(cart):
    numbers = [cart.length]
    for distance, weight in cart.wheels:
        numbers.extend([distance, weight])
    return f"cart {cart.name} {number_words(numbers)}"


def road_text(road):
    """Return a road as a text."""
    rows = [f"road {number_words(road.borders)}"]
    for rule in road.rules:
        rows.append(f"lane {rule.way}")
        rows.extend([_cart_row(cart) for cart in rule.carts])
        rows.extend([f"step {room} {name} {gap} {after}" for room, name, gap, after in rule.steps])
    return "\n".join(rows)


def _read_words(at, words):
    """Return a row's words with numbers in place of those that must be numbers."""
    check_word_count(at, words, COUNTS[words[0]])
    if words[0] == "cart":
        return words[:2] + read_numbers(at, words[2:])
    if words[0] == "step":
        room, gap, after = read_numbers(at, words[1:2] + words[3:])
        return ["step", room, words[2], gap, after]
    return words[:1] + read_numbers(at, words[1:])


def _read_rows(rows):
    found = []
    firsts = ("road",)
    # Behind a road or a lane a further row must come.
    while len(found) < len(rows) or found[-1][0] in ("road", "lane"):
        words = first_words(rows, len(found), firsts)
        found.append(_read_words(len(found), words))
        firsts = AFTER[words[0]]
    return found


def _cart(words):
    wheels = [(words[at], words[at + 1]) for at in range(3, len(words), 2)]
    return Cart(words[1], wheels, words[2])


def _rule(rows):
    """Return the rule of a lane's rows."""
    carts = [_cart(words) for words in rows if words[0] == "cart"]
    return Rule(carts, [tuple(words[1:]) for words in rows if words[0] == "step"], rows[0][1])


def read_road(text):
    """Return the road that a text describes."""
    rows = _read_rows(text.split("\n"))
    starts = [at for at, words in enumerate(rows) if words[0] == "lane"] + [len(rows)]
    rules = [_rule(rows[start:end]) for start, end in zip(starts, starts[1:])]
    return Road(rows[0][1:], rules)
