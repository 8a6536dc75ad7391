"""Rows of words and numbers."""

from fourhinges.errors import BadRow

MOST_DIGITS = 300


def first_words(rows, at, firsts):
    """Return the words of a row that must begin with one of the first words; rows are counted from 0 here."""
    if at == len(rows):
        raise BadRow(at + 1, "end")
    words = rows[at].split(" ")
    if "" in words or words[0] not in firsts:
        raise BadRow(at + 1, "word")
    return words


def check_word_count(at, words, counts):
    """Raise BadRow unless the number of words is one of the counts."""
    if len(words) not in counts:
        raise BadRow(at + 1, "count")


def _is_written_number(word):
    digits = word[1:] if word.startswith("-") else word
    if not 1 <= len(digits) <= MOST_DIGITS or not all(["0" <= digit <= "9" for digit in digits]):
        return False
    return word == "0" or not digits.startswith("0")


def read_numbers(at, words):
    """Return the whole numbers that the words of a row are."""
    if not all([_is_written_number(word) for word in words]):
        raise BadRow(at + 1, "number")
    return [int(word) for word in words]


def number_words(numbers):
    """Return numbers as words joined by single spaces."""
    return " ".join([str(number) for number in numbers])
