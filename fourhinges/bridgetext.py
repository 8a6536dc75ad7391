"""Bridges as texts."""

from fourhinges.bridge import Bridge
from fourhinges.errors import BadRow
from fourhinges.forces import Force
from fourhinges.loads import MOST_STONES, Load
from fourhinges.mechanisms import mechanisms
from fourhinges.texts import check_word_count, first_words, number_words, read_numbers
from fourhinges.weights import corner_works, work_by_corners

HINGES_WIDTH = 12
WORK_WIDTH = 14


def bridge_text(bridge):
    """Return a bridge as a text."""
    rows = [f"bridge {bridge.stones}"]
    for inner, outer in bridge.joints:
        rows.append(f"joint {number_words(inner + outer)}")
    for force in bridge.own:
        rows.append(f"own {number_words((force.across, force.up, force.moment))}")
    return "\n".join(rows)


def _read_row(rows, at, first, count):
    """Return the numbers of a row that has this first word and so many words."""
    words = first_words(rows, at, (first,))
    check_word_count(at, words, (count,))
    return read_numbers(at, words[1:])


def _read_stones(rows):
    stones = _read_row(rows, 0, "bridge", 2)[0]
    if not 1 <= stones <= MOST_STONES:
        raise BadRow(1, "number")
    return stones


def read_bridge(text):
    """Return the bridge that a text describes."""
    rows = text.split("\n")
    stones = _read_stones(rows)
    joint_rows = [_read_row(rows, at, "joint", 5) for at in range(1, stones + 2)]
    own_rows = [_read_row(rows, at, "own", 4) for at in range(stones + 2, 2 * stones + 2)]
    if len(rows) > 2 * stones + 2:
        raise BadRow(2 * stones + 3, "word")
    joints = [((x, y), (end_x, end_y)) for x, y, end_x, end_y in joint_rows]
    return Bridge(joints, Load([Force(across, up, moment) for across, up, moment in own_rows]))


def work_table(bridge, load=None):
    """Return a row for each mechanism, with its hinges and its work."""
    works = corner_works(bridge, bridge.total(load))
    rows = []
    for mechanism in mechanisms(bridge):
        hinges = ",".join([str(hinge) for hinge in mechanism.hinges])
        amount = str(work_by_corners(works, mechanism))
        rows.append(hinges.ljust(HINGES_WIDTH) + amount.rjust(WORK_WIDTH))
    return "\n".join(rows)
