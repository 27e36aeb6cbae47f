"""Stuck streets: nothing can be done there but to change all houses at once, as many as the reach tells."""

from likestreets.errors import TooMany
from likestreets.kinds import Kind
from likestreets.least import least_changes
from likestreets.leastrows import sign_of
from likestreets.lots import least_lots
from likestreets.plans import cost_of, is_plan
from likestreets.pulls import with_pull
from likestreets.reach import greatest_lots
from likestreets.rows import row_less, row_worth
from likestreets.streets import MOST_KINDS, Street
from likestreets.tables import check_table


def stuck_street(table):
    """A stuck street of the table; None if the reach is 0.

    Its kinds do the changes of a greatest swap with as few unlike pulls as can be.
    """
    check_table(table)
    lots = greatest_lots(table)
    if len(lots) == 0:
        return None
    lot = min(lots, key=len)
    if len(lot) > MOST_KINDS:
        raise TooMany("kinds", MOST_KINDS)
    changes = [(with_pull(table, number)[0], many) for number, many in lot]
    kinds = [Kind(many, 0, bounds_along(change), still_prices(change)) for change, many in changes]
    # Only the first kind saves by its change: so all houses together do.
    kinds[0] = Kind(kinds[0].many, 0, kinds[0].bounds(), falling_prices(changes[0][0]))
    plan = [[((0,) * table.columns, many)] for change, many in changes]
    target = [[(change, many)] for change, many in changes]
    return (Street(table, kinds, 0), plan, target)


def bounds_along(change):
    """Bounds that let each column go from 0 to the change's number there."""
    return [(min(0, step), max(0, step)) for step in change]


def still_prices(change):
    return [(0, []) for step in change]


def falling_prices(change):
    """Prices that fall along the change, by 1 for each piece."""
    return [(-sign_of(step), []) for step in change]


def is_stuck(table, value):
    """Whether the value is a stuck street of the table."""
    check_table(table)
    # No street has a table with too many of them; but any value is passed here.
    least_lots(table)
    if not isinstance(value, tuple) or len(value) != 3:
        return False
    street, plan, target = value
    if not isinstance(street, Street) or street.table != table:
        return False
    if street.houses != street.reach or not is_plan(street, plan) or not is_plan(street, target):
        return False
    if not are_whole_ways(street, plan, target) or cost_of(street, target) >= cost_of(street, plan):
        return False
    return ways_to_nought(street, plan, target) == 2


def are_whole_ways(street, plan, target):
    """Whether each kind's houses go from one house plan to another one by a least change, within tight bounds."""
    least = {row: True for row in least_changes(street.table)}
    for kind, had, wanted in zip(street.kinds(), plan, target):
        if len(had) != 1 or len(wanted) != 1:
            return False
        (house, many), (reached, as_many) = had[0], wanted[0]
        if row_less(reached, house) not in least:
            return False
        if kind.bounds() != [(min(first, second), max(first, second)) for first, second in zip(house, reached)]:
            return False
    return True


def ways_to_nought(street, plan, target):
    """In how many ways some houses of each kind, so and so many, can change and draw just the stock."""
    ways = {0: 1}
    for had, wanted in zip(plan, target):
        (house, many), (reached, as_many) = had[0], wanted[0]
        number = row_worth(row_less(reached, house), street.table.common)
        longer = {}
        for total, times in ways.items():
            for houses in range(many + 1):
                drawn = total + houses * number
                longer[drawn] = longer.get(drawn, 0) + times
        ways = longer
    return ways[0]
