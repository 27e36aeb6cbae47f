"""The least changes of an own row, however many there are."""

from likestreets.balances import least_balances
from likestreets.choices import between


def all_least(own):
    """The sorted list of all least changes of the tables with this own row."""
    sizes = sorted({abs(entry) for entry in own if entry != 0})
    found = lone_rows(own) + twin_rows(own)
    for counts in least_balances(sizes):
        found = found + spread(own, sizes, counts)
    return sorted(found)


def lone_rows(own):
    """The rows with one number, 1 or -1, where the own entry is 0."""
    places = [place for place, entry in enumerate(own) if entry == 0]
    return [row_with(own, [(place, number)]) for place in places for number in (1, -1)]


def twin_rows(own):
    """The rows that put one piece in a column for one in another column of the same size."""
    places = [place for place, entry in enumerate(own) if entry != 0]
    pairs = [(one, two) for one in places for two in places if one != two and abs(own[one]) == abs(own[two])]
    return [row_with(own, [(one, sign_of(own[one])), (two, -sign_of(own[two]))]) for one, two in pairs]


def row_with(own, numbers):
    """A row as long as the own one with these numbers at their places, else 0."""
    row = [0] * len(own)
    for place, number in numbers:
        row[place] = number
    return tuple(row)


def sign_of(number):
    if number < 0:
        return -1
    return 1


def spread(own, sizes, counts):
    """All rows in which the columns of each size share its count."""
    rows = [((), {size: count for size, count in zip(sizes, counts)})]
    for entry in own:
        rows = [longer for row, left in rows for longer in shared(row, left, entry)]
    return [row for row, left in rows if not any(list(left.values()))]


def shared(row, left, entry):
    """The row with one column more, and what is left then, for each share of its size's count."""
    size = abs(entry)
    count = left.get(size, 0)
    grown = []
    for share in between(count):
        rest = {key: left[key] for key in left}
        rest[size] = count - share
        grown.append((row + (share * sign_of(entry),), rest))
    return grown
