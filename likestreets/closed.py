"""Closed lists: papers that no least change is forgotten, known by their pairs."""

from likestreets.bases import spans_all
from likestreets.choices import check_choices
from likestreets.least import least_changes
from likestreets.parted import times_within
from likestreets.rows import row_fits, row_less, row_plus, row_times
from likestreets.tables import check_changes, check_table, short_list_of


def unclosed(table, changes):
    """The positions (i, j), i at most j, of the first two changes that do not close; None."""
    check_table(table)
    check_changes(table, changes)
    return first_unclosed([tuple(change) for change in changes])


def first_unclosed(rows):
    pairs = [(i, j) for i in range(len(rows)) for j in range(i, len(rows))]
    for i, j in pairs:
        check_choices(row_plus(rows[i], rows[j]))
    closing = {}
    for i, j in pairs:
        whole = row_plus(rows[i], rows[j])
        if whole not in closing:
            if not is_sum(whole, rows):
                return (i, j)
            closing[whole] = True
    return None


def is_sum(whole, rows):
    """Whether the whole is a sum of rows that fit into it, each as often as is wished."""
    parts = [row for row in rows if any(row) and row_fits(row, whole)]
    seen = {whole: True}
    waiting = [whole]
    while waiting:
        left = waiting.pop()
        if not any(left):
            return True
        for rest in rests(left, parts):
            if rest not in seen:
                seen[rest] = True
                waiting.append(rest)
    return False


def rests(left, parts):
    """What single parts leave of it, and behind these what each leaves if it is taken as often as can be.

    The single ones alone are enough; the others, which are looked at first, soon lead to an end.
    """
    fit = [part for part in parts if row_fits(part, left)]
    once = [row_less(left, part) for part in fit]
    return once + [row_less(left, row_times(part, times_within(part, left))) for part in fit]


def lacking(table, changes):
    """The first least change of the table that is not listed; None."""
    check_table(table)
    check_changes(table, changes)
    listed = {tuple(change): True for change in changes}
    for row in least_changes(table):
        if row not in listed:
            return row
    return None


def is_closed_list(table, value):
    """Whether the value is a closed list of at most 60 changes."""
    check_table(table)
    if not short_list_of(table, value):
        return False
    rows = [tuple(change) for change in value]
    if len(set(rows)) != len(rows) or not has_mirrors(rows) or not spans_all(table, rows):
        return False
    return first_unclosed(rows) is None


def has_mirrors(rows):
    return all([row_times(row, -1) in rows for row in rows])


def reduced(table, changes):
    """The sorted list of those changes, not nought, into which no other one but nought fits."""
    check_table(table)
    check_changes(table, changes)
    rows = sorted({tuple(change) for change in changes if any(change)})
    return [row for row in rows if not any([other != row and row_fits(other, row) for other in rows])]
