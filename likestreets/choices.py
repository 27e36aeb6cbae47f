"""Choices of a row: the rows that fit into it, and the changes among them."""

from likestreets.errors import TooMany
from likestreets.rows import row_worth

MOST_CHOICES = 2000


def count_choices(row):
    """How many rows fit into the row."""
    found = 1
    for number in row:
        found = found * (abs(number) + 1)
    return found


def check_choices(row):
    if count_choices(row) > MOST_CHOICES:
        raise TooMany("choices", MOST_CHOICES)


def between(number):
    """The INTEGERS from 0 to the number, rising."""
    return list(range(min(0, number), max(0, number) + 1))


def changes_within(own, row):
    """The sorted list of the rows that fit into the row and are worth 0 with the own row."""
    rows = [()]
    for number in row:
        parts = between(number)
        rows = [inside + (part,) for inside in rows for part in parts]
    return [inside for inside in rows if row_worth(inside, own) == 0]
