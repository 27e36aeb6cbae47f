"""Least changes of a table: all of them, and what fits into a change."""

from likestreets.leastrows import all_least
from likestreets.choices import changes_within, check_choices
from likestreets.errors import TooMany
from likestreets.rows import row_fits
from likestreets.tables import change_of, check_change, check_table

MOST_LEAST = 200


def is_least(table, value):
    """Whether the value is a least change of the table."""
    check_table(table)
    return change_of(table, value) and tuple(value) in all_least(table.own)


def least_changes(table):
    """The sorted list of all least changes of the table."""
    check_table(table)
    found = all_least(table.own)
    if len(found) > MOST_LEAST:
        raise TooMany("changes", MOST_LEAST)
    return found


def inner(table, change):
    """The first least change, not the change itself, that fits into it; None if there is none."""
    check_table(table)
    check_change(table, change)
    for row in least_changes(table):
        if row_fits(row, change) and row != tuple(change):
            return row
    return None


def fitting(table, change):
    """The sorted list of all changes that fit into the change."""
    check_table(table)
    check_change(table, change)
    check_choices(change)
    return changes_within(table.own, change)
