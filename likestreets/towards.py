"""Ways from plan to plan by exchanges of few houses.

Each house's way is parted into fitting least changes; the pulls of all these parts are a lot, which
parts into least lots; and what a least lot tells is done by no more houses than the reach tells.
"""

from likestreets.basics import is_list
from likestreets.errors import TooMany
from likestreets.exchanges import counts_behind, exchange_to, houses_in, is_exchange_of
from likestreets.least import least_changes
from likestreets.lots import least_lots, parts_by
from likestreets.parted import parted_by
from likestreets.plans import check_plan, counts_of, houses_apart
from likestreets.rows import row_plus, row_times, row_worth
from likestreets.streets import check_street

MOST_APART = 60


def check_plans(street, plan, target):
    check_street(street)
    check_plan(street, plan)
    check_plan(street, target)


def towards(street, plan, target):
    """Exchanges of few houses, one behind another, that lead from the plan to the target."""
    check_plans(street, plan, target)
    if houses_apart(plan, target) > MOST_APART:
        raise TooMany("houses", MOST_APART)
    changing = changing_houses(exchange_to(street, plan, target))
    ways = [way for kind, house, way in changing]
    rounds = []
    for least, often, queues in shared_out(street.table, ways):
        rounds = rounds + in_rounds(least, often, queues)
    return exchanges_of([(kind, house) for kind, house, way in changing], packed(rounds, street.reach))


def changing_houses(exchange):
    """Tuples (kind, house plan, change), one for each house that the exchange touches."""
    return [(kind, house, change) for kind, house, change, many in exchange for at in range(many)]


def shared_out(table, ways):
    """Tuples (least lot, how often, for each pull the pieces that it needs): all that the ways are made of.

    A piece is a tuple (house, least change, many), the house told by its place among the ways.
    """
    queues = {}
    for house, way in enumerate(ways):
        for part, many in parted_by(least_changes(table), way):
            queues.setdefault(row_worth(part, table.common), []).append((house, part, many))
    counts = {number: sum([many for house, part, many in queue]) for number, queue in queues.items()}
    shares = []
    for least, often in parts_by(least_lots(table), counts):
        shares.append((least, often, {number: taken_off(queues[number], often * many) for number, many in least}))
    return shares


def taken_off(queue, many):
    """So many pieces off the end of the queue, which has them no longer."""
    pieces = []
    lacking = many
    while lacking > 0:
        house, part, there = queue.pop()
        used = min(there, lacking)
        pieces.append((house, part, used))
        lacking = lacking - used
        if there > used:
            queue.append((house, part, there - used))
    return pieces


def in_rounds(least, often, queues):
    """Lists of pieces that are done together, each with just the pulls of the least lot, so and so often."""
    streams = []
    for number, many in least:
        left = list(queues[number])
        streams = streams + [taken_off(left, often) for at in range(many)]
    rounds = []
    left = often
    while left > 0:
        times = min([stream[-1][2] for stream in streams])
        rounds.append([piece for stream in streams for piece in taken_off(stream, times)])
        left = left - times
    return rounds


def packed(rounds, reach):
    """For each exchange the dict of what which house does: rounds of few houses together are one."""
    found = []
    for pieces in rounds:
        if len(found) == 0 or len(found[-1]) + len(others_in(pieces, found[-1])) > reach:
            found.append({})
        for house, part, many in pieces:
            step = row_times(part, many)
            found[-1][house] = row_plus(found[-1].get(house, row_times(step, 0)), step)
    return found


def others_in(pieces, changes):
    """The houses of the pieces that do nothing yet by the changes."""
    return sorted({house for house, part, many in pieces if house not in changes})


def exchanges_of(houses, changes):
    """The exchanges in which the houses, told by their kinds and house plans, do these changes."""
    now = list(houses)
    exchanges = []
    for done in changes:
        counted = {}
        for place, change in done.items():
            kind, house = now[place]
            key = (kind, house, change)
            counted[key] = counted.get(key, 0) + 1
            now[place] = (kind, row_plus(house, change))
        exchanges.append(sorted([(kind, house, change, many) for (kind, house, change), many in counted.items()]))
    return exchanges


def is_towards(street, plan, target, value):
    """Whether the value is exchanges of few houses, one behind another, from the plan to the target."""
    check_plans(street, plan, target)
    if not is_list(value):
        return False
    counts = counts_of(plan)
    for exchange in value:
        if not is_exchange_of(street, counts, exchange) or houses_in(exchange) > street.reach:
            return False
        counts = counts_behind(counts, exchange)
    return counts == counts_of(target)
