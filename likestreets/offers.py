"""Offers: what houses of a plan can do, how much of the stock it takes, and what it saves.

An offer is a tuple (parts, pull, saving, move): the parts and the pull of the sum that is done,
what doing it saves, and as move (kind, house plan, change, many) what is done by it. On a scale
each sum is done so many times at once: by as many houses, as far as there are so many alike ones,
and as far as there are not, by each of them more than once. Pulls are told as they are once.
"""

from likestreets.prices import cost_at
from likestreets.rows import row_times, row_worth


def sums_within(bounds, table, parts_of):
    """Of the sums, told with their parts, those with no wider step than the bounds: tuples (row, parts, pull)."""
    widths = [high - low for low, high in bounds]
    rows = [row for row in parts_of if all([abs(step) <= width for step, width in zip(row, widths)])]
    return [(row, parts_of[row], row_worth(row, table.common)) for row in rows]


def offers_on(kinds, counts, sums, scale):
    """For each house plan of the plan a tuple (how often it can be taken, its offers), on this scale.

    The plan is told by its counts; the sums are told for each kind.
    """
    groups = []
    for position, had in enumerate(counts):
        for house, many in had.items():
            houses = houses_at_once(many, scale)
            offers = offers_of(kinds[position], house, sums[position], scale // houses)
            moves = [
                (parts, number, saved * houses, (position, house, change, houses))
                for parts, number, saved, change in offers
            ]
            groups.append((many // houses, moves))
    return groups


def houses_at_once(many, scale):
    """The scale, a power of two, or the greatest one below it, so that there are as many houses."""
    houses = scale
    while houses > many:
        houses = houses // 2
    return houses


def offers_of(kind, house, sums, grow):
    """What one house can do, each sum so many times at once: tuples (parts, pull, saved, change)."""
    columns = []
    for place, (price, bound) in enumerate(zip(kind.prices(), kind.bounds())):
        size = max([0] + [row[place] for row, parts, number in sums])
        columns.append(saved_by_steps(price, bound, house[place], size, grow))
    offers = []
    for row, parts, number in sums:
        saved = saved_by(columns, row)
        if saved is not None:
            offers.append((parts, number, saved, row_times(row, grow)))
    return lean(offers)


def saved_by_steps(price, bound, number, size, grow):
    """What each step of at most this size, times grow, saves in a column, of those that stay within the bound."""
    low, high = bound
    here = cost_at(price, number)
    steps = [step for step in range(-size, size + 1) if low <= number + grow * step <= high]
    return {step: here - cost_at(price, number + grow * step) for step in steps}


def saved_by(columns, row):
    """What the row saves in all columns together; None if it does not stay within the bounds."""
    total = 0
    for saved, step in zip(columns, row):
        if step not in saved:
            return None
        total = total + saved[step]
    return total


def lean(offers):
    """The offers without those than which another one of the same pull is as good, with no more parts."""
    best = {0: 0}
    kept = []
    for offer in sorted(offers, key=lambda entry: (entry[0], -entry[2])):
        parts, number, saved, done = offer
        if number not in best or saved > best[number]:
            best[number] = saved
            kept.append(offer)
    return kept
