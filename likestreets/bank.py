"""The bank: it keeps what is left over of the stock, or lends what lacks, and so tells whether there is a plan."""

from likestreets.better import bettered, sums_by_kind
from likestreets.errors import TooMany
from likestreets.houses import house_of
from likestreets.kinds import Kind
from likestreets.led import best_plan
from likestreets.lots import least_lots
from likestreets.plans import check_layout, cost_of, counts_of, draw_of, is_plan, told_layout
from likestreets.streets import MOST_KINDS, Street, check_street
from likestreets.tables import widened


def check_bank(street):
    """The bank is one kind more and two columns more, and its table must not have too many lots."""
    if len(street.kinds()) == MOST_KINDS:
        raise TooMany("kinds", MOST_KINDS)
    least_lots(widened(street.table))


def banked(street):
    """The banked street of the street."""
    check_street(street)
    check_bank(street)
    kinds = [with_bank_columns(kind) for kind in street.kinds()] + [bank_of(street)]
    return Street(widened(street.table), kinds, street.stock)


def with_bank_columns(kind):
    """The kind with both new columns bound to 0, and with no prices."""
    return Kind(kind.many, kind.rest, kind.bounds() + [(0, 0)] * 2, [(0, [])] * (kind.columns + 2))


def bank_of(street):
    """The bank as a kind: one house, which keeps or lends as much as any layout may ask for."""
    columns = street.table.columns
    most = abs(street.stock) + sum([kind.many * most_drawn(street.table, kind) for kind in street.kinds()])
    return Kind(1, 0, [(0, 0)] * columns + [(0, most)] * 2, [(0, [])] * columns + [(1, [])] * 2)


def most_drawn(table, kind):
    """A size that what a house of the Kind draws never exceeds."""
    return sum([abs(entry) * max(abs(low), abs(high)) for entry, (low, high) in zip(table.common, kind.bounds())])


def some_layout(street):
    """A layout of the street, told; None if it has none."""
    check_street(street)
    layout = []
    for kind in street.kinds():
        share = []
        if kind.many > 0:
            house = house_of(street.table, kind)
            if house is None:
                return None
            share.append((house, kind.many))
        layout.append(share)
    return layout


def bank_plan(street, layout):
    """The plan of the banked street of which the layout of the street is a part, told."""
    check_street(street)
    check_layout(street, layout)
    check_bank(street)
    return plan_with_bank(street, layout)


def plan_with_bank(street, layout):
    lacking = street.stock - draw_of(street, layout)
    house = (0,) * street.table.columns + (max(lacking, 0), max(-lacking, 0))
    return told_layout([[(tuple(row) + (0, 0), many) for row, many in share] for share in layout]) + [[(house, 1)]]


def best_with_bank(street):
    """A best plan of the banked street, told; None for a street without a layout."""
    bank = banked(street)
    layout = some_layout(street)
    if layout is None:
        return None
    return best_plan(bank, plan_with_bank(street, layout))


def shortage(street):
    """The least size of the stock less what a layout draws; None for a street without a layout."""
    plan = best_with_bank(street)
    if plan is None:
        return None
    return price_of_bank(plan)


def price_of_bank(plan):
    """The price of a plan of a banked street: what the bank's house keeps and lends."""
    house, many = plan[-1][0]
    return house[-2] + house[-1]


def some_plan(street):
    """A plan of the street, told; None if it has none."""
    plan = best_with_bank(street)
    if plan is None or price_of_bank(plan) > 0:
        return None
    return [[(house[:-2], many) for house, many in share] for share in plan[:-1]]


def is_short_paper(street, value):
    """Whether the value is a best plan of the banked street whose price is above 0."""
    check_street(street)
    bank = banked(street)
    sums = sums_by_kind(bank, bank.reach)
    if not is_plan(bank, value) or cost_of(bank, value) == 0:
        return False
    return len(bettered(bank, counts_of(value), sums, 1)) == 0
