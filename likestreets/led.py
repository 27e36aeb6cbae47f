"""Plans led to best ones, in few steps for any number of houses.

On each scale the exchange that saves most is done. Where one is found, the next greater scale is
tried, else the next lesser one; when there is none on the scale 1, the plan is best.
"""

from likestreets.basics import is_list
from likestreets.better import bettered, sums_by_kind
from likestreets.errors import TooMany
from likestreets.exchanges import counts_behind, is_exchange_of, told_counts
from likestreets.plans import check_plan, cost_of, counts_of
from likestreets.saved import saving_of
from likestreets.streets import check_street
from likestreets.stretches import stretched

MOST_STEPS = 1000
MOST_ROWS = 200


def best_plan(street, plan):
    """A best plan of the street, told."""
    check_street(street)
    check_plan(street, plan)
    counts, exchanges = led(street, plan)
    return told_counts(counts)


def best_price(street, plan):
    """The price of the best plans of the street."""
    return cost_of(street, best_plan(street, plan))


def steps(street, plan):
    """Exchanges, one behind another, each of which betters, that lead the plan to a best one."""
    check_street(street)
    check_plan(street, plan)
    counts, exchanges = led(street, plan)
    return exchanges


def is_steps(street, plan, value):
    """Whether the value is steps of the plan."""
    check_street(street)
    check_plan(street, plan)
    sums = sums_by_kind(street, street.reach)
    if not is_list(value):
        return False
    counts = counts_of(plan)
    for exchange in value:
        if not is_exchange_of(street, counts, exchange) or saving_of(street.kinds(), exchange) <= 0:
            return False
        counts = counts_behind(counts, exchange)
    return len(bettered(street, counts, sums, 1)) == 0


def led(street, plan):
    """The counts of a best plan, and the exchanges that lead to it."""
    sums = sums_by_kind(street, street.reach)
    counts = counts_of(plan)
    exchanges = []
    scale = greatest_scale(street)
    while scale > 0:
        exchange = bettered(street, counts, sums, scale)
        if len(exchange) > 0:
            exchange = stretched(street.kinds(), counts, exchange)
            counts = counts_behind(counts, exchange)
            exchanges.append(exchange)
            check_way(counts, exchanges)
            scale = scale * 2
        else:
            scale = scale // 2
    return counts, exchanges


def check_way(counts, exchanges):
    if len(exchanges) > MOST_STEPS:
        raise TooMany("steps", MOST_STEPS)
    if sum([len(has) for has in counts]) > MOST_ROWS:
        raise TooMany("rows", MOST_ROWS)


def greatest_scale(street):
    """The greatest power of two that is not above what all houses of a kind can do in a column; 1 at least."""
    most = max([kind.many * (high - low) for kind in street.kinds() for low, high in kind.bounds()])
    scale = 1
    while scale * 2 <= most:
        scale = scale * 2
    return scale
