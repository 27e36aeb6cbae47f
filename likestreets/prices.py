"""Prices: a slope, and bends from which on each step costs more."""

from likestreets.basics import is_integer, is_list
from likestreets.errors import InvalidNumber, InvalidPrice, TooMany

MOST_BENDS = 4


def is_price(value):
    """Whether the value is a price."""
    if not isinstance(value, tuple) or len(value) != 2:
        return False
    slope, bends = value
    if not is_integer(slope) or not is_list(bends) or len(bends) > MOST_BENDS:
        return False
    return all([is_bend(bend) for bend in bends]) and is_rising([place for place, more in bends])


def is_bend(value):
    if not isinstance(value, tuple) or len(value) != 2:
        return False
    place, more = value
    return is_integer(place) and is_integer(more) and more > 0


def is_rising(numbers):
    return all([number < higher for number, higher in zip(numbers, numbers[1:])])


def check_price(price):
    if not is_price(price):
        raise InvalidPrice(price)


def told_price(price):
    """The price with its bends as a new list."""
    slope, bends = price
    return (slope, list(bends))


def cost_at(price, number):
    """What a price, known to be one, costs at the number."""
    slope, bends = price
    return slope * number + sum([more * (number - place) for place, more in bends if place < number])


def cost_of_row(prices, row):
    """The sum of what the prices, known to be some, cost at the numbers of the row."""
    return sum([cost_at(price, number) for price, number in zip(prices, row)])


def price_at(price, number):
    """What the price costs at the number."""
    check_price(price)
    if not is_integer(number):
        raise InvalidNumber(number)
    return cost_at(price, number)


def slope_at(price, number):
    """What the step from the number to the next one costs."""
    check_price(price)
    if not is_integer(number):
        raise InvalidNumber(number)
    slope, bends = price
    return slope + sum([more for place, more in bends if place <= number])


def plus_prices(price, other):
    """The sum of two prices: what both cost."""
    check_price(price)
    check_price(other)
    mores = {}
    for place, more in list(price[1]) + list(other[1]):
        mores[place] = mores.get(place, 0) + more
    if len(mores) > MOST_BENDS:
        raise TooMany("bends", MOST_BENDS)
    return (price[0] + other[0], sorted(list(mores.items())))
