"""House plans of a kind, whatever the size of its bounds: whether there are any, and the cheapest ones."""

from likestreets.leastrows import all_least, sign_of
from likestreets.plans import house_cost, in_bounds
from likestreets.prices import cost_at, cost_of_row
from likestreets.rows import row_plus, row_times, row_worth
from likestreets.scales import most_steps
from likestreets.streets import check_kind, check_street

SIZES = (4, 3, 2, 1)
# Four steps of at most 3 come, or some of them do, to at most three steps of 4; and likewise below.
MOST_SPARED = 3


def some_house(street, kind):
    """A house plan of the kind; None if it has none."""
    check_street(street)
    check_kind(street, kind)
    return house_of(street.table, street.kinds()[kind])


def has_house(street, kind):
    """Whether the kind has a house plan."""
    return some_house(street, kind) is not None


def cheapest_house(street, kind):
    """A house plan of the kind of the least price; None if it has none."""
    check_street(street)
    check_kind(street, kind)
    return cheapest_of(street.table, street.kinds()[kind])


def house_least(street, kind):
    """The least price of a house plan of the kind; None if it has none."""
    house = cheapest_house(street, kind)
    if house is None:
        return None
    return house_cost(street.kinds()[kind], house)


def house_of(table, kind):
    """A house plan of the Kind in the table; None if it has none."""
    lowest = [high if entry < 0 else low for entry, (low, high) in zip(table.own, kind.bounds())]
    rooms = {size: 0 for size in SIZES}
    for entry, (low, high) in zip(table.own, kind.bounds()):
        if entry != 0:
            rooms[abs(entry)] = rooms[abs(entry)] + high - low
    taken = steps_to(kind.rest - row_worth(lowest, table.own), [(size, rooms[size]) for size in SIZES])
    if taken is None:
        return None
    return stepped(table.own, kind.bounds(), lowest, {size: many for size, many in zip(SIZES, taken)})


def steps_to(number, rooms):
    """How many steps of each size, at most so many as there is room for, come to the number; None if none do."""
    if len(rooms) == 0:
        return [] if number == 0 else None
    size, room = rooms[0]
    most = min(room, number // size)
    for many in range(most, max(most - MOST_SPARED, 0) - 1, -1):
        found = steps_to(number - many * size, rooms[1:])
        if found is not None:
            return [many] + found
    return None


def stepped(own, bounds, lowest, left):
    """The lowest row with so many steps of each size, each column as far as it has room."""
    row = []
    for entry, (low, high), number in zip(own, bounds, lowest):
        many = min(high - low, left.get(abs(entry), 0))
        if many > 0:
            left[abs(entry)] = left[abs(entry)] - many
        row.append(number + sign_of(entry) * many)
    return tuple(row)


def cheapest_of(table, kind):
    """A house plan of the least price of the Kind in the table; None if it has none."""
    house = house_of(table, kind)
    if house is None:
        return None
    least = all_least(table.own)
    step = best_step(kind, house, least)
    while any(step):
        house = row_plus(house, step)
        step = best_step(kind, house, least)
    return house


def best_step(kind, house, least):
    """Of the least changes, each as often as is best, the one that saves most; nought if none saves."""
    prices, bounds = kind.prices(), kind.bounds()
    price = cost_of_row(prices, house)
    best = row_times(house, 0)
    saved = 0
    for change in least:
        reached = row_plus(house, change)
        if in_bounds(bounds, reached) and cost_of_row(prices, reached) < price:
            step = row_times(change, best_times(prices, house, change, most_steps(bounds, house, change)))
            more = price - cost_of_row(prices, row_plus(house, step))
            if more > saved:
                best = step
                saved = more
    return best


def best_times(prices, house, change, most):
    """How many times, from 1 on, the change added to the house plan costs least.

    Prices are bent: as soon as one time more saves no longer, it never does again.
    """
    low, high = 1, most
    while low < high:
        middle = (low + high) // 2
        if price_along(prices, house, change, middle + 1) < price_along(prices, house, change, middle):
            low = middle + 1
        else:
            high = middle
    return low


def price_along(prices, house, change, many):
    return sum([
        cost_at(price, number + many * step) for price, number, step in zip(prices, house, change) if step != 0
    ])
