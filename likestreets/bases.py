"""Bases of the changes of a table, and which lists of changes span all of them."""

from likestreets.basics import is_list
from likestreets.errors import InvalidBasis, InvalidRows
from likestreets.lattices import determinant, divisor_of, echelon, places_among, taken
from likestreets.rows import MOST_COLUMNS, is_row, row_less, row_times, row_worth
from likestreets.tables import changes_of, check_change, check_changes, check_table


def rank(table):
    """How many columns the table has, less 1 if its own row is not nought."""
    check_table(table)
    return rank_of(table)


def rank_of(table):
    if any(table.own):
        return table.columns - 1
    return table.columns


def basis(table):
    """A basis of the changes of the table."""
    check_table(table)
    return kernel(unit_rows(table.columns), table.own)


def unit_rows(columns):
    return [tuple([int(place == at) for place in range(columns)]) for at in range(columns)]


def kernel(rows, own):
    """A basis of those whole sums of the rows that are worth 0 with the own row."""
    found = []
    left = rows
    while True:
        found = found + [row for row in left if row_worth(row, own) == 0]
        left = [row for row in left if row_worth(row, own) != 0]
        if len(left) < 2:
            return found
        left = lessened(left, own)


def lessened(rows, own):
    """Rows with the same whole sums, all but one worth less in size than any was."""
    at = 0
    for position, row in enumerate(rows):
        if abs(row_worth(row, own)) < abs(row_worth(rows[at], own)):
            at = position
    least = rows[at]
    size = row_worth(least, own)
    others = rows[:at] + rows[at + 1:]
    return [least] + [row_less(row, row_times(least, row_worth(row, own) // size)) for row in others]


def is_basis(table, value):
    """Whether the value is a basis of the changes of the table."""
    check_table(table)
    if not changes_of(table, value) or len(value) != rank_of(table):
        return False
    return len(value) == 0 or divisor_of(value) == 1


def sums_in(table, basis, change):
    """By which INTEGERS the changes of the basis are multiplied to add up to the change."""
    check_table(table)
    if not is_basis(table, basis):
        raise InvalidBasis(basis)
    check_change(table, change)
    for places in places_among(table.columns, len(basis)):
        whole = determinant(taken(basis, places))
        if whole != 0:
            return [determinant(taken(rows, places)) // whole for rows in replaced(basis, change)]
    return []


def replaced(rows, row):
    """For each position the rows with the row there."""
    rows = list(rows)
    return [rows[:at] + [row] + rows[at + 1:] for at in range(len(rows))]


def divisor(rows):
    """The greatest INTEGER that divides all minors of the rows; 0 if all are 0, or there are none."""
    if not are_rows(rows):
        raise InvalidRows(rows)
    return divisor_of(rows)


def are_rows(value):
    if not is_list(value) or not 1 <= len(value) <= MOST_COLUMNS:
        return False
    return all([is_row(row) for row in value]) and all([len(row) == len(value[0]) for row in value])


def spans(table, rows):
    """Whether each change of the table is a sum of whole multiples of the rows."""
    check_table(table)
    check_changes(table, rows)
    return spans_all(table, rows)


def spans_all(table, rows):
    heads = echelon(rows, table.columns)
    if len(heads) != rank_of(table):
        return False
    return len(heads) == 0 or divisor_of(heads) == 1
