"""Exchanges of a plan: which there are, what they lead to, and how they lead back."""

from likestreets.basics import is_count, is_integer, is_list
from likestreets.errors import InvalidExchange
from likestreets.plans import check_plan, counts_of, in_bounds
from likestreets.rows import is_row, row_less, row_plus, row_times, row_worth
from likestreets.streets import check_street
from likestreets.tables import change_of


def is_exchange(street, plan, value):
    """Whether the value is an exchange of the plan."""
    check_street(street)
    check_plan(street, plan)
    return is_exchange_of(street, counts_of(plan), value)


def is_exchange_of(street, counts, value):
    """Whether the value is an exchange of the plan that is told by its counts."""
    if not is_list(value) or not all([is_move(street, counts, entry) for entry in value]):
        return False
    if len({(kind, tuple(house), tuple(change)) for kind, house, change, many in value}) != len(value):
        return False
    for (kind, house), many in leaving(value).items():
        if many > counts[kind][house]:
            return False
    return sum([many * row_worth(change, street.table.common) for kind, house, change, many in value]) == 0


def is_move(street, counts, value):
    """Whether the value tells houses of the plan, and a change that leads them to another house plan."""
    if not isinstance(value, tuple) or len(value) != 4:
        return False
    kind, house, change, many = value
    if not is_integer(kind) or not 0 <= kind < len(counts) or not is_count(many) or many == 0:
        return False
    # Nothing but a row may be looked for in a dict of rows: (1, True) would be found there as (1, 1).
    if not change_of(street.table, change) or not any(change) or not is_row_of(street.table, house):
        return False
    return tuple(house) in counts[kind] and in_bounds(street.kinds()[kind].bounds(), row_plus(house, change))


def is_row_of(table, value):
    return is_row(value) and len(value) == table.columns


def leaving(exchange):
    """For each kind and house plan how many of its houses change."""
    many_of = {}
    for kind, house, change, many in exchange:
        key = (kind, tuple(house))
        many_of[key] = many_of.get(key, 0) + many
    return many_of


def check_exchange(street, plan, exchange):
    if not is_exchange_of(street, counts_of(plan), exchange):
        raise InvalidExchange(exchange)


def check_all(street, plan, exchange):
    """All three are looked at, one behind another."""
    check_street(street)
    check_plan(street, plan)
    check_exchange(street, plan, exchange)


def touched(street, plan, exchange):
    """How many houses the exchange touches."""
    check_all(street, plan, exchange)
    return houses_in(exchange)


def houses_in(exchange):
    return sum([many for kind, house, change, many in exchange])


def done(street, plan, exchange):
    """The plan behind the exchange, told."""
    check_all(street, plan, exchange)
    return told_counts(counts_behind(counts_of(plan), exchange))


def counts_behind(counts, exchange):
    """How many houses have which house plan behind the exchange, kind by kind."""
    behind = [filled(had) for had in counts]
    for kind, house, change, many in exchange:
        behind[kind][tuple(house)] = behind[kind][tuple(house)] - many
        reached = row_plus(house, change)
        behind[kind][reached] = behind[kind].get(reached, 0) + many
    return [filled(has) for has in behind]


def filled(counts):
    """A new dict of those counts that are above 0."""
    return {house: many for house, many in counts.items() if many > 0}


def told_counts(counts):
    """The layout, told, of which the counts are given."""
    return [sorted(list(has.items())) for has in counts]


def turned_back(street, plan, exchange):
    """The exchange turned back, sorted: it leads back from the plan behind the exchange."""
    check_all(street, plan, exchange)
    return sorted([
        (kind, row_plus(house, change), row_times(change, -1), many) for kind, house, change, many in exchange
    ])


def told_exchange(exchange):
    """The exchange sorted, its rows as tuples."""
    return sorted([(kind, tuple(house), tuple(change), many) for kind, house, change, many in exchange])


def exchange_to(street, plan, target):
    """An exchange that leads from the plan to the target and touches as few houses as can be."""
    check_street(street)
    check_plan(street, plan)
    check_plan(street, target)
    exchange = []
    for kind, (had, wanted) in enumerate(zip(counts_of(plan), counts_of(target))):
        for house, reached, many in paired(more_than(had, wanted), more_than(wanted, had)):
            exchange.append((kind, house, row_less(reached, house), many))
    return exchange


def more_than(counts, others):
    """The sorted list of the house plans with how many more of them there are than in the others."""
    mores = [(house, many - others.get(house, 0)) for house, many in counts.items()]
    return sorted([(house, many) for house, many in mores if many > 0])


def paired(leaving_ones, coming_ones):
    """Tuples (house plan left, house plan come to, many) of as many houses on both sides, as they stand."""
    pairs = []
    left = list(leaving_ones)
    for reached, wanted in coming_ones:
        lacking = wanted
        while lacking > 0:
            house, many = left.pop()
            moved = min(many, lacking)
            pairs.append((house, reached, moved))
            lacking = lacking - moved
            if many > moved:
                left.append((house, many - moved))
    return pairs
