"""Rows of numbers that are implied by other rows."""

from fourhinges.errors import BadRows
from fourhinges.kinds import is_number, is_row
from fourhinges.simplex import walked
from fourhinges.vectors import dot
from fourhinges.weights import common_divisor

MOST_PLACES = 17


class Implied:
    """The row times the parts is nowhere above the sum of the rows times their amounts."""

    def __init__(self, amounts, parts):
        self.amounts = amounts
        self.parts = parts


class Parted:
    """On this mix all rows are at most 0, and the row is above 0."""

    def __init__(self, mix):
        self.mix = mix


def _check_row(row, least, most):
    if not is_row(row, least, most) or not all([is_number(number) for number in row]):
        raise BadRows()


def _check_rows(row, rows):
    _check_row(row, 1, MOST_PLACES)
    if not isinstance(rows, (list, tuple)):
        raise BadRows()
    for other in rows:
        _check_row(other, len(row), len(row))


def implied(row, rows):
    """Return Implied if the rows imply the row, and Parted if not."""
    _check_rows(row, rows)
    walk, edge = walked(row, rows)
    if edge is not None:
        mix = walk.edges[edge]
        divisor = common_divisor(mix)
        return Parted(tuple([number // divisor for number in mix]))
    amounts = walk.row_amounts()
    divisor = common_divisor([walk.divisor] + amounts)
    return Implied(tuple([amount // divisor for amount in amounts]), walk.divisor // divisor)


def counts_fault(numbers, count):
    """Return "count" unless there are so many numbers, "amount" if one is below 0, or None."""
    if len(numbers) != count:
        return "count"
    return "amount" if any([number < 0 for number in numbers]) else None


def _implied_fault(row, rows, answer):
    fault = counts_fault(answer.amounts, len(rows))
    if fault is not None:
        return fault
    if answer.parts < 1:
        return "parts"
    for place, number in enumerate(row):
        if number * answer.parts > dot([other[place] for other in rows], answer.amounts):
            return "place"
    return None


def _parted_fault(row, rows, answer):
    fault = counts_fault(answer.mix, len(row))
    if fault is not None:
        return fault
    if any([dot(other, answer.mix) > 0 for other in rows]):
        return "rows"
    return None if dot(row, answer.mix) > 0 else "row"


def implied_fault(row, rows, answer):
    """Return what is wrong with an answer of implied, or None."""
    _check_rows(row, rows)
    if isinstance(answer, Parted):
        return _parted_fault(row, rows, answer)
    return _implied_fault(row, rows, answer)
