"""What exchanges save."""

from likestreets.exchanges import check_all, is_exchange
from likestreets.plans import house_cost
from likestreets.rows import row_plus


def saving(street, plan, exchange):
    """What the plan costs less what it costs behind the exchange."""
    check_all(street, plan, exchange)
    return saving_of(street.kinds(), exchange)


def saving_of(kinds, exchange):
    """The saving of an exchange that is known to be one."""
    return sum([
        many * (house_cost(kinds[kind], house) - house_cost(kinds[kind], row_plus(house, change)))
        for kind, house, change, many in exchange
    ])


def is_bettering(street, plan, value):
    """Whether the value is an exchange of the plan with a saving above 0."""
    return is_exchange(street, plan, value) and saving_of(street.kinds(), value) > 0
