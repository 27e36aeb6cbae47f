"""Shares: how so many houses of one kind can draw a number together, counted and told.

Less the least draw, and divided by what all draws have in common, what the houses draw are small
steps from 0 on, whatever the bounds of the kind are.
"""

from math import gcd


def ends_of(draws, many):
    """The least and the greatest number that so many houses draw together; None if there is no draw for them."""
    if many == 0:
        return (0, 0)
    if len(draws) == 0:
        return None
    return (many * min(draws), many * max(draws))


def ways_by_draw(draws, many, least, most):
    """For each number that so many houses draw together in how many ways they do, each by one of some draws.

    Each house plan has its draw, alike ones too; houses have no names. Numbers below the least and
    above the most one are not asked for, and mostly left out.
    """
    if many == 0:
        return {0: 1}
    low = min(draws)
    if most < many * low or least > many * max(draws):
        return {}
    step = step_of(draws)
    steps = sorted([(draw - low) // step for draw in draws])
    highest = (most - low * many) // step
    # What is below this, with as many houses as there are yet, does not come to the least any more.
    lows = [max(0, -((low * many - least) // step) - (many - count) * steps[-1]) for count in range(many + 1)]
    ways = [window([1], 0, start, 0) for start in lows]
    for number in steps[1:]:
        for count in range(1, many + 1):
            high = min(highest, count * number)
            ways[count] = added(
                window(ways[count], lows[count], lows[count], high),
                window(ways[count - 1], lows[count - 1] + number, lows[count], high),
            )
    return {low * many + step * (lows[many] + place): found for place, found in enumerate(ways[many]) if found > 0}


def step_of(draws):
    """The greatest number of which all differences of the draws are multiples; 1 if there are none."""
    common = 0
    for draw in draws:
        common = gcd(common, draw - draws[0])
    return max(common, 1)


def window(numbers, start, low, high):
    """What stands from low to high where the numbers stand from the start on; 0 where none of them does."""
    inside = [0] * min(start - low, high + 1 - low) + numbers[max(0, low - start):max(0, high + 1 - start)]
    return inside + [0] * (high + 1 - low - len(inside))


def added(numbers, others):
    return [number + other for number, other in zip(numbers, others)]


def shares_with(houses, many, total):
    """All shares, told, of so many houses that draw the total, of house plans told as tuples (draw, house plan)."""
    rising = sorted(houses)
    levels = levels_of([draw for draw, house in rising], many, total)
    found = {(0, 0): [[]]}
    for place in range(len(rising) - 1, -1, -1):
        draw, house = rising[place]
        longer = {}
        for left, rest in levels[place]:
            tails = []
            for count in range(left + 1):
                entry = [(house, count)] if count > 0 else []
                tails = tails + [entry + tail for tail in found.get((left - count, rest - count * draw), [])]
            if len(tails) > 0:
                longer[(left, rest)] = tails
        found = longer
    return [sorted(share) for share in found.get((many, total), [])]


def levels_of(draws, many, total):
    """Ahead of each draw how many houses may be left, and what they still have to draw, as far as it can be."""
    levels = [[(many, total)]]
    for place, draw in enumerate(draws):
        reached = {}
        for left, rest in levels[place]:
            for count in range(left + 1):
                if can_draw(draws[place + 1:place + 2] + draws[-1:], left - count, rest - count * draw):
                    reached[(left - count, rest - count * draw)] = True
        levels.append(list(reached))
    return levels


def can_draw(ends, left, rest):
    """Whether the rest is between what so many houses draw at the least and at the most."""
    return left * ends[0] <= rest <= left * ends[-1]
