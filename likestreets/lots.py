"""Lots: how often which pulls add up to 0, and the least ones of them."""

from likestreets.balances import least_balances
from likestreets.basics import is_count, is_integer, is_list
from likestreets.errors import InvalidLot, TooMany
from likestreets.pulls import pulls
from likestreets.tables import check_table

MOST_LOTS = 300


def is_lot(table, value):
    """Whether the value is a lot of the table."""
    check_table(table)
    return is_lot_of(pulls(table), value)


def is_lot_of(numbers, value):
    """Whether the value is a lot, the pulls of its table being given."""
    if not is_list(value) or len(value) == 0 or not all([is_share(numbers, entry) for entry in value]):
        return False
    if len({number for number, many in value}) != len(value):
        return False
    return sum([number * many for number, many in value]) == 0


def is_share(numbers, value):
    """Whether the value is a tuple of a pull and how often it is there."""
    if not isinstance(value, tuple) or len(value) != 2:
        return False
    number, many = value
    return is_integer(number) and number in numbers and is_count(many) and many > 0


def check_lot(numbers, lot):
    if not is_lot_of(numbers, lot):
        raise InvalidLot(lot)


def told(lot):
    """The lot with its pulls rising."""
    return sorted([(number, many) for number, many in lot])


def least_lots(table):
    """The sorted list of the least lots of the table."""
    check_table(table)
    return least_lots_of(pulls(table))


def least_lots_of(numbers):
    """The sorted list of the least lots, the pulls of their table being given."""
    sizes = [number for number in numbers if number > 0]
    found = [[(-size, 1), (size, 1)] for size in sizes]
    if 0 in numbers:
        found.append([(0, 1)])
    for counts in least_balances(sizes, MOST_LOTS):
        found.append(lot_of(sizes, counts))
    if len(found) > MOST_LOTS:
        raise TooMany("lots", MOST_LOTS)
    return sorted(found)


def lot_of(sizes, counts):
    """The lot that has each size so often, those with a count below 0 as pulls below 0."""
    rising = [(size, count) for size, count in zip(sizes, counts) if count > 0]
    falling = [(-size, -count) for size, count in zip(sizes, counts) if count < 0]
    return sorted(rising + falling)


def is_least_lot(table, value):
    """Whether the value is a least lot of the table."""
    check_table(table)
    numbers = pulls(table)
    lots = least_lots_of(numbers)
    return is_lot_of(numbers, value) and told(value) in lots


def inner_lot(table, lot):
    """The first least lot that is within the lot."""
    check_table(table)
    numbers = pulls(table)
    check_lot(numbers, lot)
    left = dict(lot)
    for least in least_lots_of(numbers):
        if times_in(least, left) > 0:
            return least
    return None


def times_in(lot, left):
    """How often the lot can be taken from what is left, a dict of how often each pull is there."""
    return min([left.get(number, 0) // many for number, many in lot])


def lot_parts(table, lot):
    """Parts of the lot: least lots that add up to it, each with how often it is taken."""
    check_table(table)
    numbers = pulls(table)
    check_lot(numbers, lot)
    return parts_by(least_lots_of(numbers), dict(lot))


def parts_by(lots, counts):
    """Parts of the lot that is told by its counts, all least lots of its table being given."""
    left = dict(counts)
    parts = []
    for least in lots:
        often = times_in(least, left)
        if often > 0:
            parts.append((least, often))
            for number, many in least:
                left[number] = left[number] - often * many
    return parts


def is_lot_parts(table, lot, value):
    """Whether the value is parts of the lot."""
    check_table(table)
    numbers = pulls(table)
    check_lot(numbers, lot)
    lots = least_lots_of(numbers)
    if not is_list(value) or not all([is_lot_part(numbers, lots, entry) for entry in value]):
        return False
    parts = [(told(least), often) for least, often in value]
    names = {lots.index(least) for least, often in parts}
    return len(names) == len(parts) and added_up(parts) == dict(lot)


def is_lot_part(numbers, lots, value):
    """Whether the value is a tuple of a least lot and how often it is taken."""
    if not isinstance(value, tuple) or len(value) != 2:
        return False
    least, often = value
    return is_lot_of(numbers, least) and told(least) in lots and is_count(often) and often > 0


def added_up(parts):
    """How often each pull is there in all parts together."""
    total = {}
    for least, often in parts:
        for number, many in least:
            total[number] = total.get(number, 0) + often * many
    return total
