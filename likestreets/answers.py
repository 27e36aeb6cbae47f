"""Answers of a desk to what changes nothing: what is kept, what is noted, and what it is worth."""

from likestreets.bank import shortage
from likestreets.better import is_best
from likestreets.board import role_of, states_told
from likestreets.errors import OtherStreet
from likestreets.least import least_changes
from likestreets.plans import all_houses, apart, layout_price
from likestreets.pulls import pulls
from likestreets.reach import reach
from likestreets.saved import saving
from likestreets.sure import count_plans
from likestreets.tables import pull
from likestreets.worths import worth_of


def row_told(row):
    return ",".join([str(number) for number in row])


def parted_by_blanks(texts):
    """The texts with blanks between them; a minus if there are none."""
    return " ".join(texts) if texts else "-"


def rows_told(rows):
    return parted_by_blanks([row_told(row) for row in rows])


def number_or_none(number):
    return "none" if number is None else str(number)


def bounds_told(bounds):
    return ",".join([f"{low}:{high}" for low, high in bounds])


def price_told(price):
    slope, bends = price
    return "/".join([str(slope)] + [f"{place}+{more}" for place, more in bends])


def layout_told(layout):
    return "|".join([share_told(share) for share in layout])


def share_told(share):
    return ";".join([f"{row_told(row)}*{many}" for row, many in share]) if share else "-"


def thing_told(thing):
    """The thing in words, as the command that shows it answers."""
    role = role_of(thing)
    if role == "a table":
        return f"table {row_told(thing.own)} {row_told(thing.common)}"
    if role == "a kind":
        prices = ",".join([price_told(price) for price in thing.prices()])
        return f"kind {thing.many} {thing.rest} {bounds_told(thing.bounds())} {prices}"
    if role == "a street":
        return f"street {thing.stock} {len(thing.kinds())}"
    return f"plan {layout_told(thing[1])}"


def answer_state(board, values):
    return board.states[values[0]]


def answer_states(board, values):
    return states_told(board.states)


def answer_claimed(board, values):
    return board.noted[values[0]][0]


def answer_names(board, values):
    return parted_by_blanks(sorted(list(board.things)))


def answer_shown(board, values):
    return thing_told(board.things[values[0]])


def answer_pull(board, values):
    return str(pull(board.things[values[0]], values[1]))


def answer_changes(board, values):
    return rows_told(least_changes(board.things[values[0]]))


def answer_pulls(board, values):
    return parted_by_blanks([str(number) for number in pulls(board.things[values[0]])])


def answer_reach(board, values):
    return str(reach(board.things[values[0]]))


def answer_rooms(board, values):
    return rows_told(all_houses(board.things[values[0]], values[1]))


def answer_worth(board, values):
    return number_or_none(worth_of(board.things[values[0]]))


def answer_shortage(board, values):
    return number_or_none(shortage(board.things[values[0]]))


def answer_many(board, values):
    return str(count_plans(board.things[values[0]]))


def answer_price(board, values):
    street, plan = board.things[values[0]]
    return str(layout_price(street, plan))


def answer_kept(board, values):
    street, plan = board.things[values[0]]
    return "yes" if is_best(street, plan) else "no"


def answer_saving(board, values):
    street, plan = board.things[values[0]]
    return str(saving(street, plan, values[1]))


def answer_apart(board, values):
    street, plan = board.things[values[0]]
    other, target = board.things[values[1]]
    if street != other:
        raise OtherStreet(values[1])
    return str(apart(street, plan, target))


ANSWERS = {
    "state": answer_state, "states": answer_states, "claimed": answer_claimed, "names": answer_names,
    "shown": answer_shown, "pull": answer_pull, "changes": answer_changes, "pulls": answer_pulls,
    "reach": answer_reach, "rooms": answer_rooms, "worth": answer_worth, "shortage": answer_shortage,
    "many": answer_many, "price": answer_price, "kept": answer_kept, "saving": answer_saving, "apart": answer_apart,
}


def answered(board, word, values):
    """The answer to the command of the word, which changes nothing."""
    answer = ANSWERS[word]
    return answer(board, values)
