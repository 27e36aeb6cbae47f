"""Commands of a desk, told by their signs alone, whatever is kept there."""

from likestreets.signs import name_in, value_in

# What stands behind each word. Of names: a new one, or that of a kept thing of some kind, or of any.
ROLES = {
    "table": ("new", "row", "row"),
    "kind": ("new", "count", "number", "bounds", "prices"),
    "street": ("new", "a table", "number", "kinds"),
    "plan": ("new", "a street", "layout"),
    "copy": ("new", "a thing"),
    "arrange": ("new", "a table", "places"),
    "widen": ("new", "a table"),
    "bank": ("new", "a street"),
    "stock": ("a street", "number"),
    "houses": ("a kind", "count"),
    "exchange": ("a plan", "parts"),
    "drop": ("a thing",),
    "forget": ("a label",),
    "undo": (),
    "redo": (),
    "state": ("a label",),
    "states": (),
    "claimed": ("a label",),
    "names": (),
    "shown": ("a thing",),
    "pull": ("a table", "row"),
    "changes": ("a table",),
    "pulls": ("a table",),
    "reach": ("a table",),
    "rooms": ("a street", "count"),
    "worth": ("a street",),
    "shortage": ("a street",),
    "many": ("a street",),
    "price": ("a plan",),
    "kept": ("a plan",),
    "saving": ("a plan", "parts"),
    "apart": ("a plan", "a plan"),
}
# What stands behind each word of a claim.
CLAIMED = {
    "least": ("a table", "row"),
    "parted": ("a table", "row"),
    "enough": ("a table", "count"),
    "toofew": ("a table", "count"),
    "best": ("a plan",),
    "better": ("a plan",),
    "plan": ("a street",),
    "short": ("a street",),
    "atmost": ("a street", "number"),
    "above": ("a street", "number"),
}
DEEDS = (
    "table", "kind", "street", "plan", "copy", "arrange", "widen", "bank", "stock", "houses", "exchange", "drop",
    "claim", "forget",
)


def is_name(value):
    """Whether the value is a name."""
    return isinstance(value, str) and name_in(value) is not None


def is_command(value):
    """Whether the value is a command by its words alone."""
    return parsed(value) is not None


def is_deed(value):
    """Whether the value is a command that is a deed."""
    told = parsed(value)
    return told is not None and told[0] in DEEDS


def parsed(value):
    """The word of the command, and what stands behind it as tuples (role, value); None if it is no command."""
    if not isinstance(value, str):
        return None
    pieces = value.split(" ")
    word = pieces[0]
    if word == "claim":
        return parsed_claim(pieces)
    if word not in ROLES:
        return None
    return told_by(word, ROLES[word], pieces[1:])


def parsed_claim(pieces):
    if len(pieces) < 3 or pieces[2] not in CLAIMED:
        return None
    return told_by("claim", ("a new label", "word") + CLAIMED[pieces[2]], pieces[1:])


def told_by(word, roles, pieces):
    if len(roles) > 0 and roles[-1] == "parts":
        # An exchange has as many parts, with blanks between, as it needs.
        pieces = pieces[:len(roles) - 1] + [" ".join(pieces[len(roles) - 1:])]
    if len(pieces) != len(roles):
        return None
    values = [value_in(role, piece) for role, piece in zip(roles, pieces)]
    if any([value is None for value in values]):
        return None
    if word == "table" and len(values[1]) != len(values[2]):
        return None
    if word == "kind" and len(values[3]) != len(values[4]):
        return None
    return (word, list(zip(roles, values)))
