"""Next plans: from a best plan to one for a stock that is greater by 1, by changing few houses."""

from likestreets.better import bettered, sums_by_kind
from likestreets.errors import NotBest
from likestreets.exchanges import counts_behind, told_counts
from likestreets.offers import offers_on
from likestreets.picks import next_pick
from likestreets.plans import check_plan, counts_of, houses_apart, is_plan
from likestreets.reach import reach
from likestreets.streets import check_street
from likestreets.tables import widened


def sums_for_next(street, plan):
    """How many houses may change, and for each kind the sums for it; the plan is looked at, too."""
    check_street(street)
    check_plan(street, plan)
    few = reach(widened(street.table)) - 1
    sums = sums_by_kind(street, max(few, street.reach))
    if len(bettered(street, counts_of(plan), sums, 1)) > 0:
        raise NotBest()
    return few, sums


def next_plan(street, plan):
    """A best plan for the stock that is greater by 1, told, few houses apart from the plan; None without any."""
    few, sums = sums_for_next(street, plan)
    counts = counts_of(plan)
    moves = next_pick(offers_on(street.kinds(), counts, sums, 1), few)
    if len(moves) == 0:
        return None
    return told_counts(counts_behind(counts, moves))


def is_next(street, plan, value):
    """Whether the value is a best plan for the stock that is greater by 1, few houses apart from the plan."""
    few, sums = sums_for_next(street, plan)
    behind = street.with_stock(street.stock + 1)
    if not is_plan(behind, value) or houses_apart(plan, value) > few:
        return False
    return len(bettered(behind, counts_of(value), sums, 1)) == 0
