"""Sums of a table: what one house may have to do where few are looked at together."""

from likestreets.errors import TooMany
from likestreets.least import least_changes
from likestreets.rows import row_plus

MOST_SUMS = 2000


def sums_of(table, most):
    """The dict of the sums of at most so many fitting least changes, with the parts of each, rising."""
    least = least_changes(table)
    nought = (0,) * table.columns
    found = {nought: 0}
    latest = [nought]
    for parts in range(1, most + 1):
        longer = {}
        for row in latest:
            for part in least:
                total = row_plus(row, part)
                if total not in found and is_one_way(row, part):
                    longer[total] = True
            if len(found) + len(longer) > MOST_SUMS + 1:
                raise TooMany("sums", MOST_SUMS)
        latest = list(longer)
        for row in latest:
            found[row] = parts
    return {row: found[row] for row in found if any(row)}


def is_one_way(row, other):
    """Whether the rows have nowhere contrary signs: so both fit into their sum."""
    return all([first * second >= 0 for first, second in zip(row, other)])
