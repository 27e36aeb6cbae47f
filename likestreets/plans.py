"""House plans, layouts and plans of a street: what they draw and cost, and how far apart they are."""

from likestreets.basics import is_count, is_list
from likestreets.errors import InvalidHouse, InvalidLayout, InvalidPlan, TooMany
from likestreets.prices import cost_of_row
from likestreets.rows import is_row, row_worth
from likestreets.streets import check_kind, check_street

MOST_HOUSES = 300


def is_house(street, kind, value):
    """Whether the value is a house plan of the kind."""
    check_street(street)
    check_kind(street, kind)
    return is_house_of(street.table, street.kinds()[kind], value)


def is_house_of(table, kind, value):
    """Whether the value is a house plan of the Kind in the table."""
    return is_row(value) and in_bounds(kind.bounds(), value) and row_worth(value, table.own) == kind.rest


def in_bounds(bounds, row):
    """Whether the row is as long as the bounds, and each number within its own ones."""
    if len(row) != len(bounds):
        return False
    return all([low <= number <= high for number, (low, high) in zip(row, bounds)])


def house_price(street, kind, house):
    """The price of the house plan of the kind."""
    check_street(street)
    check_kind(street, kind)
    if not is_house(street, kind, house):
        raise InvalidHouse(house)
    return house_cost(street.kinds()[kind], house)


def house_cost(kind, house):
    """The sum of the prices of the Kind at the numbers of the house plan."""
    return cost_of_row(kind.prices(), house)


def all_houses(street, kind):
    """The sorted list of all house plans of the kind."""
    check_street(street)
    check_kind(street, kind)
    bounds = street.kinds()[kind].bounds()
    if box_size(bounds) > MOST_HOUSES:
        raise TooMany("houses", MOST_HOUSES)
    rows = [()]
    for low, high in bounds:
        rows = [row + (number,) for row in rows for number in range(low, high + 1)]
    return [row for row in rows if row_worth(row, street.table.own) == street.kinds()[kind].rest]


def box_size(bounds):
    """How many rows are within the bounds."""
    many = 1
    for low, high in bounds:
        many = many * (high - low + 1)
    return many


def is_layout(street, value):
    """Whether the value is a layout of the street."""
    check_street(street)
    kinds = street.kinds()
    if not is_list(value) or len(value) != len(kinds):
        return False
    return all([is_list_for(street.table, kind, share) for kind, share in zip(kinds, value)])


def is_list_for(table, kind, value):
    """Whether the value is a list of unlike house plans and how many houses have them, all of the Kind."""
    if not is_list(value) or not all([is_entry_for(table, kind, entry) for entry in value]):
        return False
    if len({tuple(house) for house, many in value}) != len(value):
        return False
    return sum([many for house, many in value]) == kind.many


def is_entry_for(table, kind, value):
    """Whether the value is a tuple of a house plan of the Kind and how many houses have it."""
    if not isinstance(value, tuple) or len(value) != 2:
        return False
    house, many = value
    return is_house_of(table, kind, house) and is_count(many) and many > 0


def check_layout(street, layout):
    if not is_layout(street, layout):
        raise InvalidLayout(layout)


def drawn(street, layout):
    """What the layout draws from the common stock."""
    check_street(street)
    check_layout(street, layout)
    return draw_of(street, layout)


def draw_of(street, layout):
    return sum([many * row_worth(house, street.table.common) for share in layout for house, many in share])


def layout_price(street, layout):
    """What the layout costs."""
    check_street(street)
    check_layout(street, layout)
    return cost_of(street, layout)


def cost_of(street, layout):
    kinds = street.kinds()
    return sum([many * house_cost(kind, house) for kind, share in zip(kinds, layout) for house, many in share])


def is_plan(street, value):
    """Whether the value is a plan of the street: a layout that draws just the stock."""
    return is_layout(street, value) and draw_of(street, value) == street.stock


def check_plan(street, plan):
    if not is_plan(street, plan):
        raise InvalidPlan(plan)


def told_layout(layout):
    """The layout with each of its lists sorted, house plans as tuples."""
    return [sorted([(tuple(house), many) for house, many in share]) for share in layout]


def told_plan(street, plan):
    """The plan as it is told."""
    check_street(street)
    check_plan(street, plan)
    return told_layout(plan)


def counts_of(layout):
    """For each kind the dict of how many houses have which house plan."""
    return [{tuple(house): many for house, many in share} for share in layout]


def apart(street, plan, target):
    """How many houses must change at least to make the plan the target."""
    check_street(street)
    check_plan(street, plan)
    check_plan(street, target)
    return houses_apart(plan, target)


def houses_apart(layout, other):
    """How many houses must change at least to make the layout the other one."""
    total = 0
    for had, wanted in zip(counts_of(layout), counts_of(other)):
        total = total + sum([max(0, many - wanted.get(house, 0)) for house, many in had.items()])
    return total
