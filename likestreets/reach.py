"""The reach of a table, and the lots and swaps that are as great as it."""

from likestreets.least import least_changes
from likestreets.lots import least_lots
from likestreets.pulls import with_pull
from likestreets.rows import row_worth
from likestreets.swaps import swap_of
from likestreets.tables import check_table


def things_in(lot):
    """How many things the lot has."""
    return sum([many for number, many in lot])


def most_things(lots):
    """The greatest number of things that one of the lots has; 0 without lots."""
    return max([0] + [things_in(lot) for lot in lots])


def reach(table):
    """The reach of the table."""
    check_table(table)
    return most_things(least_lots(table))


def greatest_lots(table):
    """The sorted list of the least lots that have as many things as the reach tells."""
    lots = least_lots(table)
    most = most_things(lots)
    return [lot for lot in lots if things_in(lot) == most]


def greatest_lot(table):
    """A least lot of as many things as the reach tells; None if the reach is 0."""
    check_table(table)
    lots = greatest_lots(table)
    if len(lots) == 0:
        return None
    return lots[0]


def greatest_swap(table):
    """A greatest swap of the table; None if the reach is 0."""
    check_table(table)
    lots = greatest_lots(table)
    if len(lots) == 0:
        return None
    rows = []
    for number, many in lots[0]:
        rows = rows + [with_pull(table, number)[0]] * many
    return rows


def is_greatest_swap(table, value):
    """Whether the value is a greatest swap of the table."""
    check_table(table)
    lots = greatest_lots(table)
    if not swap_of(table, value):
        return False
    known = {row: True for row in least_changes(table)}
    if not all([tuple(change) in known for change in value]):
        return False
    return lot_of_pulls(table, value) in lots


def lot_of_pulls(table, changes):
    """How often which pull is there among the changes, as a lot is told."""
    counted = {}
    for change in changes:
        number = row_worth(change, table.common)
        counted[number] = counted.get(number, 0) + 1
    return sorted(list(counted.items()))
