"""Boards: what a desk keeps under names, what is noted under labels, and the state of each label.

A board is never changed: each deed makes a new one, so that one that was put aside stays as it is.
A thing is a Table, a Kind, a Street, or for a plan the tuple (Street, plan). What is noted is a
tuple (text, word, name, parts): the claim in the words of its command, its first word, the name that
it is of, and the values behind that.
"""

from likestreets.basics import fresh
from likestreets.claims import is_claim, is_true
from likestreets.errors import TooMany
from likestreets.kinds import Kind
from likestreets.streets import Street
from likestreets.tables import Table

TRUE = "true"
FALSE = "false"
GONE = "gone"


class Board:
    def __init__(self, things, noted, states):
        self.things = things
        self.noted = noted
        self.states = states


def role_of(thing):
    """As what a thing is wanted where a command wants one."""
    if isinstance(thing, Table):
        return "a table"
    if isinstance(thing, Kind):
        return "a kind"
    if isinstance(thing, Street):
        return "a street"
    return "a plan"


def is_wanted(role, thing):
    return role in ("a thing", role_of(thing))


def claim_tuple(things, noted):
    """The word of what is noted, what is kept under its name, and the values behind, whether it is a claim or not."""
    text, word, name, parts = noted
    thing = things[name]
    if role_of(thing) == "a plan":
        return (word,) + fresh(thing) + parts
    return (word, thing) + parts


def claim_on(things, noted):
    """The claim as a tuple, of what is kept now; None if nothing is kept for it, or it is no claim of that."""
    if noted[2] not in things:
        return None
    claim = claim_tuple(things, noted)
    if not is_claim(claim):
        return None
    return claim


def state_on(things, noted):
    claim = claim_on(things, noted)
    if claim is None:
        return GONE
    try:
        holds = is_true(claim)
    except TooMany:
        return GONE
    if holds:
        return TRUE
    return FALSE


def with_thing(board, name, thing):
    """The board with the thing under the name, in the place of one that was kept there."""
    things = dict(board.things)
    things[name] = thing
    return with_things(board, things, name)


def without_thing(board, name):
    things = dict(board.things)
    things.pop(name)
    return with_things(board, things, name)


def with_things(board, things, name):
    """The board with these things, which are others under this name alone."""
    states = dict(board.states)
    for label, noted in board.noted.items():
        if noted[2] == name:
            states[label] = state_on(things, noted)
    return Board(things, board.noted, states)


def with_label(board, label, noted):
    marks = dict(board.noted)
    marks[label] = noted
    states = dict(board.states)
    states[label] = state_on(board.things, noted)
    return Board(board.things, marks, states)


def without_label(board, label):
    marks = dict(board.noted)
    marks.pop(label)
    states = dict(board.states)
    states.pop(label)
    return Board(board.things, marks, states)


def states_told(states):
    """The labels with their states, sorted, as answers tell them."""
    lines = [f"{label} {states[label]}" for label in sorted(list(states))]
    return ", ".join(lines) if lines else "-"


def changes_told(before, after):
    """The answer to a deed: the labels whose state is another one than ahead of it, with the state now."""
    changed = {
        label: state for label, state in after.states.items()
        if label not in before.states or before.states[label] != state
    }
    return states_told(changed)
