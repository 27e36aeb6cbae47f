"""The pulls of a table, and the least changes that have one."""

from likestreets.basics import is_integer
from likestreets.errors import InvalidNumber
from likestreets.least import least_changes
from likestreets.rows import row_worth
from likestreets.tables import check_table


def pulls(table):
    """The rising list of the pulls of the table's least changes."""
    check_table(table)
    return sorted({row_worth(row, table.common) for row in least_changes(table)})


def with_pull(table, number):
    """The sorted list of the least changes with this pull."""
    check_table(table)
    if not is_integer(number):
        raise InvalidNumber(number)
    return [row for row in least_changes(table) if row_worth(row, table.common) == number]
