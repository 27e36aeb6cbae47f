"""Claims, each with its contrary, and the papers that show which of both is true."""

from likestreets.bank import best_with_bank, is_short_paper, some_plan
from likestreets.basics import fresh, is_count, is_integer, is_list
from likestreets.better import better, is_best
from likestreets.errors import InvalidClaim
from likestreets.houses import has_house
from likestreets.least import inner, is_least
from likestreets.led import best_plan
from likestreets.lots import least_lots
from likestreets.plans import cost_of, is_plan
from likestreets.reach import greatest_swap, reach
from likestreets.rows import is_row, row_fits, row_times
from likestreets.saved import is_bettering
from likestreets.streets import Street
from likestreets.swaps import is_least_swap
from likestreets.tables import Table, change_of
from likestreets.worths import worth_of

WORDS = (("least", "parted"), ("enough", "toofew"), ("best", "better"), ("plan", "short"), ("atmost", "above"))
MOST_KINDS_ASKED = 4
MOST_COLUMNS_ASKED = 4
NO_HOUSE = "no house"


def words():
    """The list of the tuples of a word and the one of the contrary."""
    return list(WORDS)


def first_word(word):
    """The first word of the line in which the word stands; None for any value that stands in none."""
    for first, other in WORDS:
        if isinstance(word, str) and word in (first, other):
            return first
    return None


def is_claim(value):
    """Whether the value is a claim."""
    if not isinstance(value, tuple) or len(value) == 0:
        return False
    first = first_word(value[0])
    if first == "plan":
        return len(value) == 2 and can_be_asked(value[1])
    if first is None or len(value) != 3:
        return False
    thing, part = value[1], value[2]
    if first == "least":
        return isinstance(thing, Table) and change_of(thing, part) and any(part)
    if first == "enough":
        return isinstance(thing, Table) and is_count(part)
    if first == "best":
        return isinstance(thing, Street) and is_plan(thing, part)
    return can_be_asked(thing) and is_integer(part)


def can_be_asked(value):
    """Whether the value is a street that leaves room for the bank."""
    if not isinstance(value, Street):
        return False
    return len(value.kinds()) <= MOST_KINDS_ASKED and value.table.columns <= MOST_COLUMNS_ASKED


def check_claim(claim):
    if not is_claim(claim):
        raise InvalidClaim(claim)


def contrary(claim):
    """The claim that is true just if this one is not."""
    check_claim(claim)
    for first, other in WORDS:
        if claim[0] == first:
            return (other,) + fresh(claim[1:])
        if claim[0] == other:
            return (first,) + fresh(claim[1:])
    return None


def is_true(claim):
    """Whether the claim is true."""
    check_claim(claim)
    first = first_word(claim[0])
    return first_is_true(first, claim[1:]) == (claim[0] == first)


def first_is_true(first, parts):
    """Whether the claim of the first word of a line is true of these parts."""
    if first == "least":
        return is_least(parts[0], parts[1])
    if first == "enough":
        return reach(parts[0]) <= parts[1]
    if first == "best":
        return is_best(parts[0], parts[1])
    if first == "plan":
        return some_plan(parts[0]) is not None
    worth = worth_of(parts[0])
    return worth is not None and worth <= parts[1]


def paper_of(claim):
    """A paper of the claim; None if it is not true."""
    if not is_true(claim):
        return None
    word, thing = claim[0], claim[1]
    if word == "least":
        return ends_of(claim[2])
    if word == "parted":
        return inner(thing, claim[2])
    if word == "toofew":
        return greatest_swap(thing)
    if word == "better":
        return better(thing, claim[2])
    if word == "enough":
        return least_lots(thing)
    if word == "best":
        return least_lots(thing.table)
    if word == "plan":
        return some_plan(thing)
    return paper_of_worth(thing)


def ends_of(change):
    """The sorted list of nought and the change: a least change has no other ones within it."""
    return sorted([row_times(change, 0), tuple(change)])


def paper_of_worth(street):
    """A best plan; of a street without a plan a paper that it is short."""
    plan = some_plan(street)
    if plan is not None:
        return best_plan(street, plan)
    for position in range(len(street.kinds())):
        if lacks_house(street, position):
            return (NO_HOUSE, position)
    return best_with_bank(street)


def lacks_house(street, position):
    """Whether the kind has houses, but no house plan."""
    return street.kinds()[position].many > 0 and not has_house(street, position)


def is_paper_of(claim, value):
    """Whether the value is a paper of the claim."""
    check_claim(claim)
    word, thing = claim[0], claim[1]
    if word == "least":
        return is_least(thing, claim[2]) and are_ends_of(claim[2], value)
    if word == "parted":
        return is_within(thing, claim[2], value)
    if word == "enough":
        return reach(thing) <= claim[2] and are_lots(least_lots(thing), value)
    if word == "toofew":
        return is_least_swap(thing, value) and len(value) > claim[2]
    if word == "best":
        return is_best(thing, claim[2]) and are_lots(least_lots(thing.table), value)
    if word == "better":
        return is_bettering(thing, claim[2], value)
    if word == "plan":
        return is_plan(thing, value)
    if word == "short":
        return is_short(thing, value)
    if word == "atmost":
        return is_plan(thing, value) and cost_of(thing, value) <= claim[2]
    if is_plan(thing, value):
        return cost_of(thing, value) > claim[2] and is_best(thing, value)
    return is_short(thing, value)


def are_ends_of(change, value):
    if not is_list(value) or not all([is_row(row) for row in value]):
        return False
    return [tuple(row) for row in value] == ends_of(change)


def is_within(table, change, value):
    """Whether the value is a change that fits into the change, neither nought nor itself."""
    if not change_of(table, value) or not any(value):
        return False
    return row_fits(value, change) and tuple(value) != tuple(change)


def are_lots(lots, value):
    """Whether the value is the list of the lots, as they are told."""
    if not is_list(value) or not all([is_told_lot(lot) for lot in value]):
        return False
    return [list(lot) for lot in value] == lots


def is_told_lot(value):
    if not is_list(value) or not all([isinstance(entry, tuple) and len(entry) == 2 for entry in value]):
        return False
    return all([is_integer(number) and is_integer(many) for number, many in value])


def is_short(street, value):
    """Whether the value shows that the street has no plan."""
    if isinstance(value, tuple) and len(value) == 2 and isinstance(value[0], str) and value[0] == NO_HOUSE:
        position = value[1]
        return is_count(position) and position < len(street.kinds()) and lacks_house(street, position)
    return is_short_paper(street, value)
