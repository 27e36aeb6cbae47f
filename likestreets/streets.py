"""Streets: a table, kinds of houses, and the common stock."""

from likestreets.basics import is_integer, is_list
from likestreets.errors import InvalidKind, InvalidKinds, InvalidStock, InvalidStreet
from likestreets.kinds import Kind
from likestreets.lots import least_lots
from likestreets.reach import most_things
from likestreets.tables import check_table

MOST_KINDS = 5


class Street:
    """A table, 1 to 5 kinds of as many columns, and a stock."""

    def __init__(self, table, kinds, stock):
        check_table(table)
        if not is_list(kinds) or not 1 <= len(kinds) <= MOST_KINDS:
            raise InvalidKinds(None)
        for position, kind in enumerate(kinds):
            if not is_kind_for(table, kind):
                raise InvalidKinds(position)
        if not is_integer(stock):
            raise InvalidStock(stock)
        self._table = table
        self._kinds = list(kinds)
        self._stock = stock
        self._houses = sum([kind.many for kind in kinds])
        self._reach = most_things(least_lots(table))

    @property
    def table(self):
        return self._table

    @property
    def stock(self):
        return self._stock

    @property
    def houses(self):
        return self._houses

    @property
    def reach(self):
        return self._reach

    def kinds(self):
        """The list of the kinds."""
        return list(self._kinds)

    def with_stock(self, stock):
        """The street with another stock."""
        return Street(self._table, self._kinds, stock)

    def with_kind(self, position, kind):
        """The street with another kind in the place of the one at the position."""
        check_kind(self, position)
        if not is_kind_for(self._table, kind):
            raise InvalidKinds(position)
        return Street(self._table, self._kinds[:position] + [kind] + self._kinds[position + 1:], self._stock)

    def __eq__(self, other):
        if not isinstance(other, Street) or self._table != other._table:
            return False
        return self._kinds == other._kinds and self._stock == other._stock


def is_kind_for(table, value):
    """Whether the value is a Kind of as many columns as the table has."""
    return isinstance(value, Kind) and value.columns == table.columns


def check_street(street):
    if not isinstance(street, Street):
        raise InvalidStreet(street)


def check_kind(street, kind):
    if not is_integer(kind) or not 0 <= kind < len(street.kinds()):
        raise InvalidKind(kind)
