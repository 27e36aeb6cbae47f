"""Picks: which offers together take nothing from the stock, or just one piece, and save most.

A rate tells what a piece of the stock is worth: (number, of) for number / of. The gain of an offer
is what it saves less what its pull is worth, times of. As all pulls come to the same, the greatest
gain of all together is the greatest saving; so what cannot come to a gain any more is left out.
"""

from likestreets.offers import lean

DEEPER = 8


def best_pick(groups, most):
    """The moves of the offers that save most, at most so many parts together; [] if nothing can be saved.

    Each group is a tuple (how often its houses can be taken, offers): each time one of the offers.
    """
    merged = with_free_ones_merged(groups, most)
    offers = offers_in(merged)
    rate = fair_rate(offers)
    # To take nothing at all gains nothing.
    return moves_of(greatest(merged, rate, hopes_of(offers, rate, most), 0, 0))


def next_pick(groups, most):
    """The moves of the offers that take one piece from the stock and cost least; [] if none take just one.

    At most so many parts together; with no offers that take nothing may anything be saved.
    """
    merged = with_free_ones_merged(groups, most)
    if not can_take_one(merged, most):
        return []
    offers = offers_in(merged)
    rate = fair_rate(offers)
    hopes = hopes_of(offers, rate, most)
    # With a floor far below the greatest gain nearly nothing is left out: so it is lowered little by little.
    depth = 1
    moves = []
    while len(moves) == 0:
        moves = moves_of(greatest(merged, rate, hopes, -1, hopes[most] - depth))
        depth = depth * DEEPER
    return moves


def can_take_one(groups, most):
    """Whether offers of at most so many parts together can take just one piece from the stock."""
    still = [(often, lean_pulls(offers)) for often, offers in groups]
    return len(moves_of(greatest(still, (0, 1), [0] * (most + 1), -1, -1))) > 0


def lean_pulls(offers):
    """Of the offers of each pull but 0 one of the fewest parts, without what it saves."""
    kept = {}
    for parts, number, saved, move in sorted(offers, key=lambda entry: entry[0]):
        if number != 0 and number not in kept:
            kept[number] = (parts, number, 0, move)
    return list(kept.values())


def offers_in(groups):
    return [offer for often, group in groups for offer in group]


def greatest(groups, rate, hopes, start, floor):
    """The greatest gain above the floor of offers whose pulls lead from the start to 0, and the moves for it.

    It is told as a tuple (gain, moves), the moves None if there is no such gain.
    """
    most = len(hopes) - 1
    levels = [{} for parts in range(most + 1)]
    levels[0][start] = (0, None)
    found = (floor, None)
    for often, group in groups:
        for order in orders_of(often, most):
            take(levels, gains_of(group, rate, hopes, found[0]), hopes, order, found[0])
            found = best_of([found] + [level[0] for level in levels if 0 in level])
    return found


def with_free_ones_merged(groups, most):
    """The groups; those that can be taken as often as is wished are one, ahead of the others."""
    free = [offer for often, group in groups if often >= most for offer in group]
    scarce = [(often, group) for often, group in groups if often < most]
    if len(free) == 0:
        return scarce
    return [(most, lean(free))] + scarce


def gain_of(offer, rate):
    parts, number, saved, move = offer
    return saved * rate[1] - number * rate[0]


def fair_rate(offers):
    """The rate at which the greatest gain of a part is least."""
    rising = [offer for offer in offers if offer[1] > 0]
    falling = [offer for offer in offers if offer[1] < 0]
    # Where nothing answers the one side, its offers must not seem to gain.
    size = 1 + sum([abs(offer[2]) for offer in offers])
    if len(falling) == 0:
        return (size, 1)
    if len(rising) == 0:
        return (-size, 1)
    up = highest(rising, (0, 1))
    down = highest(falling, (0, 1))
    while True:
        rate = crossing(up, down)
        top = highest(offers, rate)
        if top[1] == 0 or gain_of(top, rate) * up[0] <= gain_of(up, rate) * top[0]:
            return rate
        if top[1] > 0:
            up = top
        else:
            down = top


def highest(offers, rate):
    """The first offer of the greatest gain for each of its parts."""
    top = offers[0]
    gain = gain_of(top, rate)
    for offer in offers:
        other = gain_of(offer, rate)
        if other * top[0] > gain * offer[0]:
            top = offer
            gain = other
    return top


def crossing(up, down):
    """The rate at which both offers gain the same for each of their parts."""
    return (up[2] * down[0] - down[2] * up[0], up[1] * down[0] - down[1] * up[0])


def hopes_of(offers, rate, most):
    """For each number of parts, from 0 on, more than what at most so many of them gain is not to be hoped for."""
    single = [0] * (most + 1)
    for offer in offers:
        if offer[0] <= most:
            single[offer[0]] = max(single[offer[0]], gain_of(offer, rate))
    hopes = [0]
    for parts in range(1, most + 1):
        hopes.append(max([single[first] + hopes[parts - first] for first in range(1, parts + 1)]))
    return hopes


def gains_of(offers, rate, hopes, floor):
    """The offers, told by their gains, that with others may gain more than the floor."""
    most = len(hopes) - 1
    gains = [(offer[0], offer[1], gain_of(offer, rate), offer[3]) for offer in offers if offer[0] <= most]
    return [entry for entry in gains if entry[2] + hopes[most - entry[0]] > floor]


def orders_of(often, most):
    """For each time that offers are taken, in which sequence the levels are gone through.

    Falling, each offer comes to levels that are behind already: so one is taken, and no more.
    """
    if often >= most:
        return [list(range(most + 1))]
    return [list(range(most, -1, -1))] * often


def take(levels, gains, hopes, order, floor):
    """Take each of the offers, where it may lead to more than the floor, behind what was taken.

    A level has for each sum of pulls the greatest gain, and the moves that lead to it.
    """
    most = len(hopes) - 1
    for parts in order:
        for number, (gained, moves) in list(levels[parts].items()):
            for more, drawn, gain, move in gains:
                behind = parts + more
                if behind <= most and gained + gain + hopes[most - behind] > floor:
                    level = levels[behind]
                    if number + drawn not in level or level[number + drawn][0] < gained + gain:
                        level[number + drawn] = (gained + gain, (moves, move))


def best_of(entries):
    best = entries[0]
    for entry in entries:
        if entry[0] > best[0]:
            best = entry
    return best


def moves_of(found):
    """The exchange of the moves that lead there: the same ones together, sorted."""
    counted = {}
    chain = found[1]
    while chain is not None:
        chain, (kind, house, change, many) = chain
        key = (kind, house, change)
        counted[key] = counted.get(key, 0) + many
    return sorted([(kind, house, change, many) for (kind, house, change), many in counted.items()])
