"""Written forms: values of nine sorts as lines of words and numbers, each in just one way."""

from likestreets.basics import is_count, is_integer, is_list
from likestreets.errors import InvalidForm, InvalidSort
from likestreets.exchanges import told_exchange
from likestreets.kinds import Kind
from likestreets.lots import told
from likestreets.plans import told_layout
from likestreets.prices import is_price
from likestreets.rows import is_row
from likestreets.streets import MOST_KINDS, Street
from likestreets.tables import Table

SORTS = ("row", "table", "price", "kind", "street", "layout", "exchange", "lot", "changes")
MOST_LINES = 100


def sorts():
    """The list of the words of the sorts."""
    return list(SORTS)


def is_form(sort, value):
    """Whether the value is one of the sort."""
    check_sort(sort)
    return is_of(sort, value)


def written(sort, value):
    """The written form of the value of the sort."""
    check_sort(sort)
    if not is_of(sort, value):
        raise InvalidForm(value)
    return "".join([line + "\n" for line in lines_of(sort, value)])


def check_sort(sort):
    if not isinstance(sort, str) or sort not in SORTS:
        raise InvalidSort(sort)


def is_of(sort, value):
    if sort == "row":
        return is_row(value)
    if sort == "table":
        return isinstance(value, Table)
    if sort == "price":
        return is_price(value)
    if sort == "kind":
        return isinstance(value, Kind)
    if sort == "street":
        return isinstance(value, Street)
    if sort == "layout":
        return is_layout_form(value)
    if not is_list(value) or len(value) > MOST_LINES:
        return False
    if sort == "exchange":
        return is_exchange_form(value)
    if sort == "lot":
        return is_lot_form(value)
    return all([is_row(row) for row in value]) and are_as_long(value)


def are_as_long(rows):
    return len({len(row) for row in rows}) <= 1


def is_layout_form(value):
    if not is_list(value) or not 1 <= len(value) <= MOST_KINDS:
        return False
    if not all([is_share_form(share) for share in value]):
        return False
    return are_as_long([row for share in value for row, many in share])


def is_share_form(value):
    """Whether the value is a list of unlike rows and how many houses have them."""
    if not is_list(value) or len(value) > MOST_LINES:
        return False
    if not all([is_pair(entry) and is_row(entry[0]) and is_many(entry[1]) for entry in value]):
        return False
    return len({tuple(row) for row, many in value}) == len(value)


def is_pair(value):
    return isinstance(value, tuple) and len(value) == 2


def is_many(value):
    return is_count(value) and value > 0


def is_exchange_form(value):
    if not all([is_move_form(entry) for entry in value]):
        return False
    if not are_as_long([row for kind, house, change, many in value for row in (house, change)]):
        return False
    return len({(kind, tuple(house), tuple(change)) for kind, house, change, many in value}) == len(value)


def is_move_form(value):
    if not isinstance(value, tuple) or len(value) != 4:
        return False
    kind, house, change, many = value
    return is_count(kind) and kind < MOST_KINDS and is_row(house) and is_row(change) and is_many(many)


def is_lot_form(value):
    if not all([is_pair(entry) and is_integer(entry[0]) and is_many(entry[1]) for entry in value]):
        return False
    return len({number for number, many in value}) == len(value)


def line_of(word, numbers):
    return " ".join([word] + [str(number) for number in numbers])


def lines_of(sort, value):
    """The lines of the value's written form, without their line feeds."""
    if sort == "row":
        return [line_of("row", value)]
    if sort == "table":
        return ["table"] + lines_of_table(value)
    if sort == "price":
        return lines_of_price("price", [], value)
    if sort == "kind":
        return lines_of_kind(value)
    if sort == "street":
        kinds = [line for kind in value.kinds() for line in lines_of_kind(kind)]
        return [line_of("street", [value.stock])] + lines_of_table(value.table) + kinds
    if sort == "layout":
        return ["layout"] + [line for share in told_layout(value) for line in lines_of_share(share)]
    if sort == "exchange":
        return ["exchange"] + [line for move in told_exchange(value) for line in lines_of_move(move)]
    if sort == "lot":
        return ["lot"] + [line_of("pull", entry) for entry in told(value)]
    return ["changes"] + [line_of("by", row) for row in value]


def lines_of_table(table):
    return [line_of("own", table.own), line_of("common", table.common)]


def lines_of_price(word, numbers, price):
    """The line of the word, the numbers and the slope, and those of the bends."""
    slope, bends = price
    return [line_of(word, list(numbers) + [slope])] + [line_of("bend", bend) for bend in bends]


def lines_of_kind(kind):
    lines = [line_of("kind", [kind.many, kind.rest])]
    for bound, price in zip(kind.bounds(), kind.prices()):
        lines = lines + lines_of_price("column", bound, price)
    return lines


def lines_of_share(share):
    return ["houses"] + [line_of("house", (many,) + house) for house, many in share]


def lines_of_move(move):
    kind, house, change, many = move
    return [line_of("from", (kind, many) + house), line_of("by", change)]
