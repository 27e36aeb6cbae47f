"""Whole sums of rows: determinants, divisors of minors, and echelon rows with the same whole sums."""

from math import gcd

from likestreets.rows import row_less, row_times


def determinant(rows):
    """The determinant of as many rows as they have numbers; 1 of none."""
    if not rows:
        return 1
    total = 0
    sign = 1
    for place, entry in enumerate(rows[0]):
        if entry != 0:
            total += sign * entry * determinant([row[:place] + row[place + 1:] for row in rows[1:]])
        sign = -sign
    return total


def taken(rows, places):
    """Of each row what stands at the places."""
    return [[row[place] for place in places] for row in rows]


def places_among(columns, many):
    """All tuples of so many of the places, rising."""
    found = [()]
    for _ in range(many):
        found = [
            places + (place,) for places in found for place in range(columns) if len(places) == 0 or place > places[-1]
        ]
    return found


def divisor_of(rows):
    """The greatest INTEGER that divides all minors of the rows, at least one; 0 if all are 0."""
    found = 0
    for places in places_among(len(rows[0]), len(rows)):
        found = gcd(found, determinant(taken(rows, places)))
    return found


def echelon(rows, columns):
    """Rows with the same whole sums, each with its first number that is not 0 at a place of its own."""
    heads = [None] * columns
    for row in rows:
        heads = tidied(with_row(heads, tuple(row)))
    return [head for head in heads if head is not None]


def with_row(heads, row):
    """The heads, at each place the row that begins there or None, when one more row is let in."""
    grown = list(heads)
    for place in range(len(heads)):
        if grown[place] is None:
            if row[place] != 0:
                grown[place] = row
                return grown
        else:
            grown[place], row = divided(grown[place], row, place)
    return grown


def divided(row, other, place):
    """Two rows with the same whole sums, of which the second one has 0 at the place."""
    while other[place] != 0:
        row, other = other, row_less(row, row_times(other, row[place] // other[place]))
    return row, other


def tidied(heads):
    """The heads with numbers kept small: great ones would grow with each row that is let in."""
    small = list(heads)
    for place in range(len(heads)):
        for later in range(place + 1, len(heads)):
            row, head = small[place], heads[later]
            if row is not None and head is not None:
                small[place] = row_less(row, row_times(head, row[later] // head[later]))
    return small
