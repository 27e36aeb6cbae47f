"""What an INTEGER, a COUNT and a list are, asked of any value; and values with new lists."""


def is_integer(value):
    """Whether the value is an INTEGER: an int, but neither True nor False."""
    return isinstance(value, int) and not isinstance(value, bool)


def is_count(value):
    """Whether the value is an INTEGER that is at least 0."""
    return is_integer(value) and value >= 0


def is_list(value):
    """Whether the value is a list or a tuple, which stands for a list everywhere."""
    return isinstance(value, (list, tuple))


def fresh(value):
    """The value with new lists in it, also within its tuples."""
    if isinstance(value, list):
        return [fresh(part) for part in value]
    if isinstance(value, tuple):
        return tuple([fresh(part) for part in value])
    return value
