"""Swaps: changes of as many houses whose pulls add up to 0, and what is within them."""

from likestreets.basics import is_list
from likestreets.choices import changes_within, check_choices
from likestreets.errors import InvalidSwap
from likestreets.least import least_changes
from likestreets.parted import parted_by
from likestreets.rows import row_fits, row_worth
from likestreets.tables import changes_of, check_table

MOST_IN_SWAP = 60


def is_swap(table, value):
    """Whether the value is a swap of the table."""
    check_table(table)
    return swap_of(table, value)


def swap_of(table, value):
    """Whether the value is a swap of the table, which is known to be one."""
    if not is_list(value) or not 1 <= len(value) <= MOST_IN_SWAP or not changes_of(table, value):
        return False
    return all([any(change) for change in value]) and pull_of_all(table, value) == 0


def pull_of_all(table, rows):
    return sum([row_worth(row, table.common) for row in rows])


def check_swap(table, swap):
    if not swap_of(table, swap):
        raise InvalidSwap(swap)


def is_least_swap(table, value):
    """Whether the value is a least swap of the table."""
    check_table(table)
    return swap_of(table, value) and found_within(table, value) is None


def swap_within(table, swap):
    """A list of rows within the swap; None if it is least."""
    check_table(table)
    check_swap(table, swap)
    return found_within(table, swap)


def is_swap_within(table, swap, value):
    """Whether the value is a list of rows within the swap."""
    check_table(table)
    check_swap(table, swap)
    if not is_list(value) or len(value) != len(swap) or not changes_of(table, value):
        return False
    if not all([row_fits(row, change) for row, change in zip(value, swap)]) or pull_of_all(table, value) != 0:
        return False
    changed = any([any(row) for row in value])
    return changed and [tuple(row) for row in value] != [tuple(change) for change in swap]


def found_within(table, swap):
    """A list of rows within the swap; None if there is none.

    What is within a swap may be taken to leave its last change alone or to do only a part of it:
    if it does all of it, what it leaves of the swap is within, too.
    """
    for change in swap:
        check_choices(change)
    parts = []
    sums = [(1, 0)]
    for at, change in enumerate(swap):
        parts.append(parts_by_pull(table, tuple(change), at < len(swap) - 1))
        for number in parts[at]:
            if has_sum(sums[at], -number):
                rows = ways_back(table, parts, sums, number)
                return rows + [(0,) * table.columns] * (len(swap) - len(rows))
        sums.append(more_sums(sums[at], list(parts[at])))
    return None


def parts_by_pull(table, change, whole):
    """For each pull a change, not nought, that fits into the change; itself only if the whole is let."""
    rows = [row for row in changes_within(table.own, change) if any(row) and (whole or row != change)]
    return {row_worth(row, table.common): row for row in rows}


def has_sum(sums, number):
    """Whether the number is among the sums: the bits of an INTEGER, from the least sum on."""
    bits, least = sums
    return number >= least and (bits >> (number - least)) & 1 == 1


def more_sums(sums, numbers):
    """The sums with one of the numbers, or none of them, added."""
    bits, least = sums
    low = min([0] + numbers)
    grown = bits << -low
    for number in numbers:
        grown = grown | (bits << (number - low))
    return grown, least + low


def ways_back(table, parts, sums, number):
    """The rows of all changes that were looked at, the last one with this pull, that come to 0."""
    rows = [parts[-1][number]]
    wanted = -number
    for at in reversed(range(len(parts) - 1)):
        row = row_for(table, parts[at], sums[at], wanted)
        wanted = wanted - row_worth(row, table.common)
        rows.append(row)
    return rows[::-1]


def row_for(table, part, sums, wanted):
    """The first row, nought ahead of all, that leaves one of the sums of what is wanted."""
    for row in [(0,) * table.columns] + list(part.values()):
        if has_sum(sums, wanted - row_worth(row, table.common)):
            return row
    return None


def things(table, swap):
    """Things of the swap: the pulls of all parts of partings of its changes, as a lot."""
    check_table(table)
    check_swap(table, swap)
    least = least_changes(table)
    counted = {}
    for change in swap:
        for part, many in parted_by(least, change):
            number = row_worth(part, table.common)
            counted[number] = counted.get(number, 0) + many
    return sorted(list(counted.items()))
