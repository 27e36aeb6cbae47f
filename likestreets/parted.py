"""Partings of changes: as which least changes, each so and so often, a change can be told."""

from likestreets.leastrows import all_least
from likestreets.basics import is_count, is_list
from likestreets.choices import changes_within, check_choices
from likestreets.least import least_changes
from likestreets.rows import is_row, row_fits, row_length, row_less, row_plus, row_times
from likestreets.tables import check_change, check_table


def parting(table, change):
    """A parting of the change."""
    check_table(table)
    check_change(table, change)
    return parted_by(least_changes(table), change)


def parted_by(parts, change):
    """A parting of the change, all least changes of its table being given."""
    left = tuple(change)
    found = []
    for part in parts:
        many = times_within(part, left)
        if many > 0:
            found.append((part, many))
            left = row_less(left, row_times(part, many))
    return found


def times_within(part, row):
    """How often the part, not nought, can be taken from the row, each time fitting into what is left."""
    if not row_fits(part, row):
        return 0
    return min([around // inside for inside, around in zip(part, row) if inside != 0])


def is_parting(table, change, value):
    """Whether the value is a parting of the change."""
    check_table(table)
    check_change(table, change)
    if not is_list(value) or not all([is_part(entry) for entry in value]):
        return False
    rows = [tuple(row) for row, many in value]
    if len(set(rows)) != len(rows) or not are_parts(table, change, rows):
        return False
    total = (0,) * table.columns
    for row, many in value:
        total = row_plus(total, row_times(row, many))
    return total == tuple(change)


def is_part(value):
    """Whether the value is a tuple of a row and how often it is taken."""
    if not isinstance(value, tuple) or len(value) != 2:
        return False
    row, many = value
    return is_row(row) and is_count(many) and many > 0


def are_parts(table, change, rows):
    """Whether all rows are least changes of the table that fit into the change."""
    known = {row: True for row in all_least(table.own)}
    return all([row in known and row_fits(row, change) for row in rows])


def few_parts(table, change):
    """The least number of parts that a parting of the change has."""
    check_table(table)
    check_change(table, change)
    least = least_changes(table)
    check_choices(change)
    parts = [part for part in least if row_fits(part, change)]
    return fewest(parts, changes_within(table.own, change))


def fewest(parts, rows):
    """The least number of parts that add up to the longest of all changes that fit into it."""
    counted = {}
    many = 0
    for row in sorted(rows, key=row_length):
        many = 0
        if any(row):
            # What a part leaves is shorter, and so it is counted already.
            many = 1 + min([counted[row_less(row, part)] for part in parts if row_fits(part, row)])
        counted[row] = many
    return many
