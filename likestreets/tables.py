"""Tables: an own row and a common row, their changes and pulls, and tables made of tables."""

from likestreets.basics import is_integer, is_list
from likestreets.errors import InvalidChange, InvalidChanges, InvalidNumber, InvalidOrder, InvalidPlace
from likestreets.errors import InvalidRow, InvalidTable, TooFew, TooMany, UnlikeLengths
from likestreets.rows import MOST_COLUMNS, check_row, is_row, row_worth

GREATEST_ENTRY = 4
MOST_CHANGES_LISTED = 60


def is_entry(value):
    return is_integer(value) and -GREATEST_ENTRY <= value <= GREATEST_ENTRY


class Table:
    """Two rows as long of entries from -4 to 4: the own one and the common one."""

    def __init__(self, own, common):
        for row in (own, common):
            if not is_row(row) or not all([is_entry(entry) for entry in row]):
                raise InvalidRow(row)
        if len(own) != len(common):
            raise UnlikeLengths()
        self._own = tuple(own)
        self._common = tuple(common)

    @property
    def own(self):
        return self._own

    @property
    def common(self):
        return self._common

    @property
    def columns(self):
        return len(self._own)

    def __eq__(self, other):
        return isinstance(other, Table) and self._own == other._own and self._common == other._common

    def __repr__(self):
        return f"Table({self._own!r}, {self._common!r})"


def check_table(table):
    if not isinstance(table, Table):
        raise InvalidTable(table)


def check_place(table, place):
    if not is_integer(place) or not 0 <= place < table.columns:
        raise InvalidPlace(place)


def change_of(table, value):
    """Whether the value is a change of the table, which is known to be one."""
    return is_row(value) and len(value) == table.columns and row_worth(value, table.own) == 0


def check_change(table, change):
    if not change_of(table, change):
        raise InvalidChange(change)


def changes_of(table, value):
    """Whether the value is a list of changes of the table."""
    return is_list(value) and all([change_of(table, change) for change in value])


def short_list_of(table, value):
    """Whether the value is a list of changes, not more than are let where a list of changes is passed."""
    return is_list(value) and len(value) <= MOST_CHANGES_LISTED and changes_of(table, value)


def check_changes(table, changes):
    if not short_list_of(table, changes):
        raise InvalidChanges(changes)


def pull(table, row):
    """The worth of the row with the common row of the table."""
    check_table(table)
    check_row(row)
    if len(row) != table.columns:
        raise UnlikeLengths()
    return row_worth(row, table.common)


def is_change(table, value):
    """Whether the value is a change of the table."""
    check_table(table)
    return change_of(table, value)


def with_column(table, first, second):
    """The table with one column more at its end: own entry first, common entry second."""
    check_table(table)
    for entry in (first, second):
        if not is_entry(entry):
            raise InvalidNumber(entry)
    check_room(table, 1)
    return Table(table.own + (first,), table.common + (second,))


def check_room(table, more):
    if table.columns + more > MOST_COLUMNS:
        raise TooMany("columns", MOST_COLUMNS)


def without_column(table, place):
    """The table without the column at the place."""
    check_table(table)
    check_place(table, place)
    if table.columns == 1:
        raise TooFew()
    return Table(without(table.own, place), without(table.common, place))


def without(row, place):
    return row[:place] + row[place + 1:]


def arranged(table, order):
    """The table whose column at each place is the one at the place that the order tells there."""
    check_table(table)
    if not is_order(table, order):
        raise InvalidOrder(order)
    return Table([table.own[place] for place in order], [table.common[place] for place in order])


def is_order(table, value):
    if not is_list(value) or not all([is_integer(place) for place in value]):
        return False
    return sorted(value) == list(range(table.columns))


def signed(table, place):
    """The table with both entries of the column at the place multiplied by -1."""
    check_table(table)
    check_place(table, place)
    return Table(with_sign(table.own, place), with_sign(table.common, place))


def with_sign(row, place):
    return row[:place] + (-row[place],) + row[place + 1:]


def widened(table):
    """The table with the columns "left over" (0, 1) and "lent" (0, -1) more at its end."""
    check_table(table)
    check_room(table, 2)
    return Table(table.own + (0, 0), table.common + (1, -1))
