"""Kinds: how many like houses there are, their rest, bounds and prices."""

from likestreets.basics import is_count, is_integer, is_list
from likestreets.errors import InvalidBounds, InvalidMany, InvalidPrices, InvalidRest
from likestreets.prices import is_price, told_price
from likestreets.rows import MOST_COLUMNS


def are_bounds(value):
    """Whether the value is a list of 1 to 6 bounds."""
    return is_list(value) and 1 <= len(value) <= MOST_COLUMNS and all([is_bound(entry) for entry in value])


def is_bound(value):
    """Whether the value is a tuple of a low and a high number."""
    if not isinstance(value, tuple) or len(value) != 2:
        return False
    low, high = value
    return is_integer(low) and is_integer(high) and low <= high


class Kind:
    """Like houses: how many, and for each of them its rest, bounds and prices, column by column."""

    def __init__(self, many, rest, bounds, prices):
        if not is_count(many):
            raise InvalidMany(many)
        if not is_integer(rest):
            raise InvalidRest(rest)
        if not are_bounds(bounds):
            raise InvalidBounds(bounds)
        if not is_list(prices) or len(prices) != len(bounds) or not all([is_price(price) for price in prices]):
            raise InvalidPrices(prices)
        self._many = many
        self._rest = rest
        self._bounds = list(bounds)
        self._prices = [told_price(price) for price in prices]

    @property
    def many(self):
        return self._many

    @property
    def rest(self):
        return self._rest

    @property
    def columns(self):
        return len(self._bounds)

    def bounds(self):
        """The list of the bounds."""
        return list(self._bounds)

    def prices(self):
        """The list of the told prices."""
        return [told_price(price) for price in self._prices]

    def with_many(self, many):
        """The kind with so many houses."""
        return Kind(many, self._rest, self._bounds, self._prices)

    def __eq__(self, other):
        if not isinstance(other, Kind) or self._many != other._many or self._rest != other._rest:
            return False
        return self._bounds == other._bounds and self._prices == other._prices

    def __repr__(self):
        return f"Kind({self._many}, {self._rest}, {self._bounds!r}, {self._prices!r})"
