"""Values as they are written in texts and commands, read by their signs alone; None for what is none."""

from likestreets.prices import is_price
from likestreets.rows import MOST_COLUMNS
from likestreets.streets import MOST_KINDS

DIGITS = "0123456789"
LETTERS = "abcdefghijklmnopqrstuvwxyz"
MOST_FIGURES = 30
MOST_SIGNS = 8
MOST_PARTS = 6


def is_count_written(text):
    """Whether the text is a COUNT in decimal digits, without needless noughts."""
    if len(text) == 0 or not all([sign in DIGITS for sign in text]):
        return False
    return text == "0" or text[0] != "0"


def is_number_written(text):
    """Whether the text is an INTEGER in decimal digits, behind a minus if it is below 0."""
    if text.startswith("-"):
        return text != "-0" and is_count_written(text[1:])
    return is_count_written(text)


def count_in(text):
    if is_count_written(text) and len(text) <= MOST_FIGURES:
        return int(text)
    return None


def number_in(text):
    if is_number_written(text) and len(text.removeprefix("-")) <= MOST_FIGURES:
        return int(text)
    return None


def name_in(text):
    if not 1 <= len(text) <= MOST_SIGNS or text[0] not in LETTERS:
        return None
    if not all([sign in LETTERS or sign in DIGITS for sign in text]):
        return None
    return text


def listed(text, mark, most, reader):
    """The list of what the reader reads, parted by the mark, as many as most; None if it cannot be read."""
    pieces = text.split(mark)
    if len(pieces) > most:
        return None
    values = [reader(piece) for piece in pieces]
    if any([value is None for value in values]):
        return None
    return values


def row_in(text):
    numbers = listed(text, ",", MOST_COLUMNS, number_in)
    if numbers is None:
        return None
    return tuple(numbers)


def bound_in(text):
    numbers = listed(text, ":", 2, number_in)
    if numbers is None or len(numbers) < 2 or numbers[0] > numbers[1]:
        return None
    return tuple(numbers)


def bounds_in(text):
    return listed(text, ",", MOST_COLUMNS, bound_in)


def bend_in(text):
    pieces = text.split("+")
    if len(pieces) != 2:
        return None
    return (number_in(pieces[0]), count_in(pieces[1]))


def price_in(text):
    pieces = text.split("/")
    price = (number_in(pieces[0]), [bend_in(piece) for piece in pieces[1:]])
    if not is_price(price):
        return None
    return price


def prices_in(text):
    return listed(text, ",", MOST_COLUMNS, price_in)


def places_in(text):
    """The places of one to six columns, each once, told by one figure each."""
    if not 1 <= len(text) <= MOST_COLUMNS or sorted(list(text)) != list(DIGITS[:len(text)]):
        return None
    return [int(sign) for sign in text]


def names_in(text):
    return listed(text, ",", MOST_KINDS, name_in)


def layout_in(text):
    return listed(text, "|", len(text), share_in)


def share_in(text):
    """What the houses of one kind have: nothing, or house plans, each with how many have it."""
    if text == "-":
        return []
    return listed(text, ";", len(text), entry_in)


def entry_in(text):
    pieces = text.split("*")
    if len(pieces) != 2:
        return None
    row, many = row_in(pieces[0]), count_in(pieces[1])
    if row is None or many is None:
        return None
    return (row, many)


def part_in(text):
    """A part of an exchange: kind, house plan, change, many; the kind told by one figure."""
    pieces = text.split(":")
    if len(pieces) != 4 or len(pieces[0]) != 1:
        return None
    part = (count_in(pieces[0]), row_in(pieces[1]), row_in(pieces[2]), count_in(pieces[3]))
    if any([value is None for value in part]):
        return None
    return part


def parts_in(text):
    return listed(text, " ", MOST_PARTS, part_in)


READERS = {
    "row": row_in, "count": count_in, "number": number_in, "bounds": bounds_in, "prices": prices_in,
    "places": places_in, "kinds": names_in, "layout": layout_in, "parts": parts_in,
}


def value_in(role, text):
    """What the text is in this role; a name, if the role is none of a value's."""
    if role not in READERS:
        return name_in(text)
    reader = READERS[role]
    return reader(text)
