"""Written forms read back; of any other string the first line that is wrong is told."""

from likestreets.errors import InvalidText
from likestreets.kinds import Kind
from likestreets.prices import MOST_BENDS
from likestreets.rows import MOST_COLUMNS
from likestreets.signs import is_number_written
from likestreets.streets import MOST_KINDS, Street
from likestreets.tables import GREATEST_ENTRY, Table
from likestreets.texts import MOST_LINES, SORTS


class Lines:
    """The lines of a text, taken one behind another."""

    def __init__(self, text):
        pieces = text.split("\n")
        self._lines = pieces[:-1]
        # What stands behind the last line feed is no line, but it is wrong there as well.
        self._rest = pieces[-1]
        self._taken = 0

    def word(self):
        """The first word of the next line; an empty one if there is none."""
        if self._taken == len(self._lines):
            return ""
        return self._lines[self._taken].split(" ")[0]

    def take(self, word, least, most):
        """The numbers of the next line, from so many to so many, behind the word."""
        self._taken = self._taken + 1
        if self._taken > len(self._lines):
            raise InvalidText(self._taken)
        words = self._lines[self._taken - 1].split(" ")
        self.need(words[0] == word and least <= len(words) - 1 <= most)
        self.need(all([is_number_written(text) for text in words[1:]]))
        return tuple([int(text) for text in words[1:]])

    def need(self, holds):
        """What must hold of the line that was taken last."""
        if not holds:
            raise InvalidText(self._taken)

    def finish(self):
        """Nothing may stand behind the lines that were taken."""
        if self._taken < len(self._lines) or self._rest != "":
            raise InvalidText(self._taken + 1)


def read(text):
    """The tuple of the sort and the value of which the text is the written form."""
    if not isinstance(text, str):
        raise InvalidText(0)
    lines = Lines(text)
    sort = lines.word()
    if sort not in SORTS:
        raise InvalidText(1)
    reader = READERS[sort]
    parts = reader(lines)
    lines.finish()
    if sort == "street":
        # A street of a table with too many lots is read to its end before this is told.
        return (sort, Street(*parts))
    return (sort, parts)


def read_row(lines):
    return lines.take("row", 1, MOST_COLUMNS)


def read_table(lines):
    lines.take("table", 0, 0)
    return read_rows(lines)


def read_rows(lines):
    own = lines.take("own", 1, MOST_COLUMNS)
    lines.need(are_entries(own))
    common = lines.take("common", len(own), len(own))
    lines.need(are_entries(common))
    return Table(own, common)


def are_entries(row):
    return all([-GREATEST_ENTRY <= entry <= GREATEST_ENTRY for entry in row])


def read_price(lines):
    slope = lines.take("price", 1, 1)[0]
    return (slope, read_bends(lines))


def read_bends(lines):
    bends = []
    while len(bends) < MOST_BENDS and lines.word() == "bend":
        place, more = lines.take("bend", 2, 2)
        lines.need(more > 0 and (len(bends) == 0 or place > bends[-1][0]))
        bends.append((place, more))
    return bends


def read_kind(lines):
    return read_columns(lines, 1, MOST_COLUMNS)


def read_columns(lines, least, most):
    """A kind of from so many to so many columns."""
    many, rest = lines.take("kind", 2, 2)
    lines.need(many >= 0)
    bounds = []
    prices = []
    while len(bounds) < least or (len(bounds) < most and lines.word() == "column"):
        low, high, slope = lines.take("column", 3, 3)
        lines.need(low <= high)
        bounds.append((low, high))
        prices.append((slope, read_bends(lines)))
    return Kind(many, rest, bounds, prices)


def read_street(lines):
    """The parts of a street: its table, kinds and stock."""
    stock = lines.take("street", 1, 1)[0]
    table = read_rows(lines)
    kinds = []
    while len(kinds) == 0 or (len(kinds) < MOST_KINDS and lines.word() == "kind"):
        kinds.append(read_columns(lines, table.columns, table.columns))
    return (table, kinds, stock)


def read_layout(lines):
    lines.take("layout", 0, 0)
    layout = []
    columns = None
    while len(layout) == 0 or (len(layout) < MOST_KINDS and lines.word() == "houses"):
        lines.take("houses", 0, 0)
        share = []
        while len(share) < MOST_LINES and lines.word() == "house":
            many, row = read_counted(lines, "house", 1, columns)
            lines.need(many[0] > 0 and (len(share) == 0 or row > share[-1][0]))
            columns = len(row)
            share.append((row, many[0]))
        layout.append(share)
    return layout


def read_counted(lines, word, ahead, columns):
    """So many numbers, and a row behind them, of so many columns, if any are told."""
    least, most = (1, MOST_COLUMNS) if columns is None else (columns, columns)
    numbers = lines.take(word, ahead + least, ahead + most)
    return numbers[:ahead], numbers[ahead:]


def read_exchange(lines):
    lines.take("exchange", 0, 0)
    moves = []
    columns = None
    while len(moves) < MOST_LINES and lines.word() == "from":
        (kind, many), row = read_counted(lines, "from", 2, columns)
        columns = len(row)
        lines.need(0 <= kind < MOST_KINDS and many > 0)
        lines.need(len(moves) == 0 or (kind, row) >= moves[-1][:2])
        change = lines.take("by", columns, columns)
        lines.need(len(moves) == 0 or (kind, row, change) > moves[-1][:3])
        moves.append((kind, row, change, many))
    return moves


def read_lot(lines):
    lines.take("lot", 0, 0)
    lot = []
    while len(lot) < MOST_LINES and lines.word() == "pull":
        number, many = lines.take("pull", 2, 2)
        lines.need(many > 0 and (len(lot) == 0 or number > lot[-1][0]))
        lot.append((number, many))
    return lot


def read_changes(lines):
    lines.take("changes", 0, 0)
    rows = []
    while len(rows) < MOST_LINES and lines.word() == "by":
        most = len(rows[0]) if rows else MOST_COLUMNS
        rows.append(lines.take("by", most if rows else 1, most))
    return rows


READERS = {
    "row": read_row, "table": read_table, "price": read_price, "kind": read_kind, "street": read_street,
    "layout": read_layout, "exchange": read_exchange, "lot": read_lot, "changes": read_changes,
}
