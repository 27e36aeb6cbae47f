"""Exchanges grown, all changes so many times, and repeated, so many times as many houses."""

from likestreets.basics import is_count
from likestreets.errors import InvalidExchange, InvalidMany, NotGrown
from likestreets.exchanges import check_all, is_exchange_of, leaving, told_exchange
from likestreets.plans import counts_of
from likestreets.rows import row_times


def check_scaled(street, plan, exchange):
    check_all(street, plan, exchange)
    if len(exchange) == 0:
        raise InvalidExchange(exchange)


def check_times(many):
    if not is_count(many) or many == 0:
        raise InvalidMany(many)


def grown(street, plan, exchange, many):
    """The exchange with all its changes times many, told."""
    check_scaled(street, plan, exchange)
    check_times(many)
    return checked(street, plan, [
        (kind, house, row_times(change, many), houses) for kind, house, change, houses in exchange
    ])


def repeated(street, plan, exchange, many):
    """The exchange with all its numbers of houses times many, told."""
    check_scaled(street, plan, exchange)
    check_times(many)
    return checked(street, plan, repeated_by(exchange, many))


def repeated_by(exchange, many):
    return [(kind, house, change, houses * many) for kind, house, change, houses in exchange]


def checked(street, plan, exchange):
    """The exchange, told, if it is one of the plan."""
    if not is_exchange_of(street, counts_of(plan), exchange):
        raise NotGrown()
    return told_exchange(exchange)


def most_grown(street, plan, exchange):
    """The greatest number of times that the exchange can be grown."""
    check_scaled(street, plan, exchange)
    kinds = street.kinds()
    return min([most_steps(kinds[kind].bounds(), house, change) for kind, house, change, many in exchange])


def most_steps(bounds, house, change):
    """How many times the change, not nought, can be added to the house plan within the bounds."""
    found = []
    for (low, high), number, step in zip(bounds, house, change):
        if step > 0:
            found.append((high - number) // step)
        if step < 0:
            found.append((number - low) // -step)
    return min(found)


def most_repeated(street, plan, exchange):
    """The greatest number of times that the exchange can be repeated."""
    check_scaled(street, plan, exchange)
    return most_often(counts_of(plan), exchange)


def most_often(counts, exchange):
    """How often the houses of the exchange, not the empty one, are there in the plan that is told by its counts."""
    return min([counts[kind][house] // many for (kind, house), many in leaving(exchange).items()])
