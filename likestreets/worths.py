"""The worths of stocks: the prices of the best plans."""

from likestreets.bank import some_plan
from likestreets.basics import is_count
from likestreets.errors import InvalidMany
from likestreets.led import best_price
from likestreets.streets import check_street

MOST_WORTHS = 12


def worth_of(street):
    """The price of the best plans of the street; None if it has no plan."""
    plan = some_plan(street)
    if plan is None:
        return None
    return best_price(street, plan)


def worths(street, many):
    """The list of the worths of the street's stock and of the stocks next to it, so many of them, rising."""
    check_street(street)
    if not is_count(many) or not 1 <= many <= MOST_WORTHS:
        raise InvalidMany(many)
    return [worth_of(street.with_stock(street.stock + more)) for more in range(many)]
