"""Exchanges stretched: all that their houses do is done together as often as saves most.

Where a kind has few houses, each of them does it more than once; where it has many, more of them
do it. So what is done at once hangs neither on the scale on which it was found, nor on its bits.
"""

from math import gcd

from likestreets.rows import row_times
from likestreets.saved import saving_of
from likestreets.scales import most_often, most_steps, repeated_by

FEW_HOUSES = 40
SMALL_CHANGE = 256


def stretched(kinds, counts, exchange):
    """The exchange, which betters the plan that is told by its counts, as often as saves most."""
    growing = [move for move in exchange if kinds[move[0]].many <= FEW_HOUSES]
    repeating = [move for move in exchange if kinds[move[0]].many > FEW_HOUSES]
    # Many houses that change much, in odd numbers, would be parted into ever other house plans.
    if greatest_step(repeating) > SMALL_CHANGE:
        return exchange
    common = common_divisor(growing, repeating)
    growing = [(kind, house, row_divided(change, common), many) for kind, house, change, many in growing]
    repeating = [(kind, house, change, many // common) for kind, house, change, many in repeating]
    low = 1
    high = most_times(kinds, counts, growing, repeating)
    # Prices are bent: so what one time more saves gets less with each.
    while low < high:
        middle = (low + high) // 2
        if saved_by(kinds, growing, repeating, middle + 1) >= saved_by(kinds, growing, repeating, middle):
            low = middle + 1
        else:
            high = middle
    return sorted(times_done(growing, repeating, low))


def greatest_step(moves):
    return max([0] + [abs(step) for kind, house, change, many in moves for step in change])


def row_divided(row, number):
    return tuple([entry // number for entry in row])


def common_divisor(growing, repeating):
    """The greatest number of times that the exchange is another one."""
    numbers = [step for kind, house, change, many in growing for step in change]
    common = 0
    for number in numbers + [many for kind, house, change, many in repeating]:
        common = gcd(common, number)
    return common


def most_times(kinds, counts, growing, repeating):
    """How many times at most all of it can be done together."""
    times = [most_steps(kinds[kind].bounds(), house, change) for kind, house, change, many in growing]
    if len(repeating) > 0:
        times.append(most_often(counts, repeating))
    return min(times)


def times_done(growing, repeating, many):
    grown = [(kind, house, row_times(change, many), houses) for kind, house, change, houses in growing]
    return grown + repeated_by(repeating, many)


def saved_by(kinds, growing, repeating, many):
    return saving_of(kinds, times_done(growing, repeating, many))
