"""All plans of a street of few houses and few house plans, the best ones, and what stands in them."""

from likestreets.errors import TooMany
from likestreets.plans import all_houses, cost_of
from likestreets.rows import row_worth
from likestreets.shares import ends_of, shares_with, ways_by_draw
from likestreets.streets import check_kind, check_street

MOST_MANY = 60
MOST_PLANS = 300


def houses_by_draw(street):
    """For each kind its house plans, as tuples (draw, house plan)."""
    check_street(street)
    kinds = street.kinds()
    houses = [all_houses(street, position) for position in range(len(kinds))]
    if any([kind.many > MOST_MANY for kind in kinds]):
        raise TooMany("many", MOST_MANY)
    return [[(row_worth(house, street.table.common), house) for house in rows] for rows in houses]


def ways_of_kinds(street, houses):
    """For each kind in how many ways its houses draw which number, as far as the other kinds can draw the rest."""
    kinds = street.kinds()
    draws = [[draw for draw, house in rows] for rows in houses]
    ends = [ends_of(numbers, kind.many) for numbers, kind in zip(draws, kinds)]
    if any([end is None for end in ends]):
        return [{} for kind in kinds]
    rest = street.stock - sum([low for low, high in ends])
    spare = sum([high for low, high in ends]) - street.stock
    return [
        ways_by_draw(numbers, kind.many, high - spare, low + rest)
        for numbers, kind, (low, high) in zip(draws, kinds, ends)
    ]


def ways_behind(ways):
    """For each kind in how many ways those behind it draw which number together."""
    behind = [{0: 1}]
    for found in reversed(list(ways[1:])):
        behind = [together(found, behind[0])] + behind
    return behind


def together(ways, others):
    total = {}
    for number, found in ways.items():
        for other, more in others.items():
            total[number + other] = total.get(number + other, 0) + found * more
    return total


def count_plans(street):
    """How many plans the street has."""
    ways = ways_of_kinds(street, houses_by_draw(street))
    return counted(street, ways, ways_behind(ways))


def counted(street, ways, behind):
    return sum([found * behind[0].get(street.stock - number, 0) for number, found in ways[0].items()])


def all_plans(street):
    """The sorted list of all plans of the street."""
    houses = houses_by_draw(street)
    ways = ways_of_kinds(street, houses)
    behind = ways_behind(ways)
    if counted(street, ways, behind) > MOST_PLANS:
        raise TooMany("plans", MOST_PLANS)
    begun = [([], street.stock)]
    for position, kind in enumerate(street.kinds()):
        longer = []
        for shares, left in begun:
            # Only what the kinds behind can draw may be left: so each of them leads to a plan.
            for number in ways[position]:
                if left - number in behind[position]:
                    found = shares_with(houses[position], kind.many, number)
                    longer = longer + [(shares + [share], left - number) for share in found]
        begun = longer
    return sorted([[list(share) for share in shares] for shares, left in begun])


def best_plans(street):
    """The sorted list of the best plans of the street; [] if it has no plan."""
    plans = all_plans(street)
    prices = [cost_of(street, plan) for plan in plans]
    least = min(prices, default=None)
    return [plan for plan, price in zip(plans, prices) if price == least]


def sure_houses(street, kind):
    """The sorted list of the house plans that stand at the kind in each best plan."""
    standing = standing_in_best(street, kind)
    return [house for house in all_in(standing) if all([house in houses for houses in standing])]


def maybe_houses(street, kind):
    """The sorted list of the house plans that stand at the kind in some of the best plans."""
    return all_in(standing_in_best(street, kind))


def standing_in_best(street, kind):
    """For each best plan the list of the house plans that stand at the kind."""
    check_street(street)
    check_kind(street, kind)
    return [[house for house, many in plan[kind]] for plan in best_plans(street)]


def all_in(standing):
    return sorted({house for houses in standing for house in houses})
