"""Deeds: what each of them makes of a board."""

from likestreets.bank import banked
from likestreets.board import GONE, claim_tuple, state_on, with_label, with_thing, without_label, without_thing
from likestreets.errors import InvalidClaim, TooMany
from likestreets.exchanges import done
from likestreets.kinds import Kind
from likestreets.plans import told_plan
from likestreets.streets import Street
from likestreets.tables import Table, arranged, widened

MOST_NAMES = 10
MOST_LABELS = 12


def made_table(things, values):
    return Table(values[1], values[2])


def made_kind(things, values):
    return Kind(values[1], values[2], values[3], values[4])


def made_street(things, values):
    return Street(things[values[1]], [things[name] for name in values[3]], values[2])


def made_plan(things, values):
    street = things[values[1]]
    return (street, told_plan(street, values[2]))


def made_copy(things, values):
    return things[values[1]]


def made_arranged(things, values):
    return arranged(things[values[1]], values[2])


def made_widened(things, values):
    return widened(things[values[1]])


def made_banked(things, values):
    return banked(things[values[1]])


def with_other_stock(things, values):
    return things[values[0]].with_stock(values[1])


def with_other_houses(things, values):
    return things[values[0]].with_many(values[1])


def with_exchange_done(things, values):
    street, plan = things[values[0]]
    return (street, done(street, plan, values[1]))


# What is made, and kept under the first name of the command.
MAKERS = {
    "table": made_table, "kind": made_kind, "street": made_street, "plan": made_plan, "copy": made_copy,
    "arrange": made_arranged, "widen": made_widened, "bank": made_banked,
    "stock": with_other_stock, "houses": with_other_houses, "exchange": with_exchange_done,
}


def board_behind(board, line, word, values):
    """The board behind the deed of the line, of which the word and the values behind it are given."""
    if word == "claim":
        return board_with_claim(board, line, values)
    if word == "forget":
        return without_label(board, values[0])
    if word == "drop":
        return without_thing(board, values[0])
    maker = MAKERS[word]
    thing = maker(board.things, values)
    if values[0] not in board.things and len(board.things) >= MOST_NAMES:
        raise TooMany("names", MOST_NAMES)
    return with_thing(board, values[0], thing)


def board_with_claim(board, line, values):
    label, word, name = values[:3]
    # Ahead of the claim's words stand the word of the command and the label.
    text = line.split(" ", 2)[2]
    noted = (text, word, name, tuple(values[3:]))
    if state_on(board.things, noted) == GONE:
        raise InvalidClaim(claim_tuple(board.things, noted))
    if len(board.noted) >= MOST_LABELS:
        raise TooMany("labels", MOST_LABELS)
    return with_label(board, label, noted)
