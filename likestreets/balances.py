"""Least balances: counts of sizes on two sides that come to the same, and none of them in vain.

Both the least changes of a table and its least lots are of this kind: the sizes are those of the
own entries there, and those of the pulls here.
"""


def least_balances(sizes, most=None):
    """The least balances of unlike sizes above 0; if there are more than most, only some more than most.

    A balance is a tuple of INTEGERS, one for each size, not all 0, whose sum of size times count
    is 0; it is least if no other one fits into it.
    """
    found = []
    waiting = [((0,) * len(sizes), 0, 0, 0, 1, 1)]
    while waiting and (most is None or len(found) <= most):
        for state in continued(sizes, waiting.pop()):
            if state[1] == 0:
                found.append(state[0])
            else:
                waiting.append(state)
    return found


def continued(sizes, state):
    """All states with one piece more, but those in which there is more than a balance.

    A state has the counts, their sum, from which size on each side goes on, and for each side the
    sums of its parts as the bits of an INTEGER. Each side takes its sizes as they rise, and a sum
    above 0 is answered by the other side: so there is one way to each balance, and it is short.
    """
    counts, total, rising, falling, above, below = state
    states = []
    if total <= 0:
        for at in range(rising, len(sizes)):
            sums = above | (above << sizes[at])
            states.append((with_piece(counts, at, 1), total + sizes[at], at, falling, sums, below))
    else:
        for at in range(falling, len(sizes)):
            sums = below | (below << sizes[at])
            states.append((with_piece(counts, at, -1), total - sizes[at], rising, at, above, sums))
    return [longer for longer in states if is_lean(longer)]


def with_piece(counts, at, piece):
    return counts[:at] + (counts[at] + piece,) + counts[at + 1:]


def is_lean(state):
    """Whether the state is a least balance, or has no balance in it.

    The state ahead of it had none: so what is in a balance is all of it, as what is beside it
    would have been there ahead. One size on both sides is told by no count: it is no balance.
    """
    counts, total, rising, falling, above, below = state
    if total == 0:
        return any(counts)
    return above & below == 1
