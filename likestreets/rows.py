"""Rows: their sums, multiples, worths, and which fits into which.

The functions whose names begin with row_ are for rows that are known to be right: they look at
no argument, as what is looked through by the thousand should not be looked at each time.
"""

from likestreets.basics import is_integer, is_list
from likestreets.errors import InvalidNumber, InvalidRow, UnlikeLengths

MOST_COLUMNS = 6


def is_row(value):
    """Whether the value is a list of 1 to 6 INTEGERS."""
    if not is_list(value) or not 1 <= len(value) <= MOST_COLUMNS:
        return False
    return all([is_integer(number) for number in value])


def check_row(row):
    if not is_row(row):
        raise InvalidRow(row)


def check_two_rows(row, other):
    check_row(row)
    check_row(other)
    if len(row) != len(other):
        raise UnlikeLengths()


def row_plus(row, other):
    return tuple([first + second for first, second in zip(row, other)])


def row_less(row, other):
    return tuple([first - second for first, second in zip(row, other)])


def row_times(row, number):
    return tuple([entry * number for entry in row])


def row_worth(row, other):
    return sum([first * second for first, second in zip(row, other)])


def row_length(row):
    return sum([abs(entry) for entry in row])


def row_fits(row, other):
    for inside, around in zip(row, other):
        if not (inside == 0 or 0 < inside <= around or around <= inside < 0):
            return False
    return True


def plus(row, other):
    """The sum of two rows, place by place."""
    check_two_rows(row, other)
    return row_plus(row, other)


def less(row, other):
    """The first row less the other one, place by place."""
    check_two_rows(row, other)
    return row_less(row, other)


def times(row, number):
    """The row, each of its numbers multiplied by the number."""
    check_row(row)
    if not is_integer(number):
        raise InvalidNumber(number)
    return row_times(row, number)


def mirrored(row):
    """The row times -1."""
    check_row(row)
    return row_times(row, -1)


def worth(row, other):
    """The sum of the products of two rows, place by place."""
    check_two_rows(row, other)
    return row_worth(row, other)


def fits(row, other):
    """Whether the row fits into the other one: nowhere greater, nowhere of the other sign."""
    check_two_rows(row, other)
    return row_fits(row, other)


def meet(row, other):
    """The greatest row that fits into both rows."""
    check_two_rows(row, other)
    return tuple([meet_at(first, second) for first, second in zip(row, other)])


def meet_at(first, second):
    if first > 0 and second > 0:
        return min(first, second)
    if first < 0 and second < 0:
        return max(first, second)
    return 0


def length_of(row):
    """The sum of the sizes of the row's numbers."""
    check_row(row)
    return row_length(row)
