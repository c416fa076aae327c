"""Of which kind and form a value is: these functions judge any value."""

MOST_PLACES = 12


def is_int(value):
    """Whether the value is an integer and no truth."""
    # A truth and an object of a subclass are instances of int, too: the class's name tells them apart.
    return isinstance(value, int) and value.__class__.__name__ == "int"


def is_text(value):
    """Whether the value is a string."""
    return isinstance(value, str) and value.__class__.__name__ == "str"


def is_tuple(value):
    """Whether the value is a tuple."""
    return isinstance(value, tuple) and value.__class__.__name__ == "tuple"


def is_list(value):
    """Whether the value is a list."""
    return isinstance(value, list) and value.__class__.__name__ == "list"


def is_within(value, low, high):
    """Whether the value is an integer from low to high."""
    return is_int(value) and low <= value <= high


def is_ascending(values):
    """Whether each of the values is less than the next one."""
    return all([value < behind for value, behind in zip(values, values[1:])])


def is_places(count, value):
    """Whether the value is a tuple of some of so many places, in any sequence."""
    return is_tuple(value) and all([is_within(place, 0, count - 1) for place in value])


def is_unlike_places(count, value):
    """Whether the value is a tuple of some of so many places, each once."""
    return is_places(count, value) and is_ascending(sorted(value))


def is_row_form(count, value):
    """Whether the value is a tuple of all of so many places, each once."""
    return is_unlike_places(count, value) and len(value) == count


def is_lot_form(count, value):
    """Whether the value is a lot of some of so many places, perhaps ()."""
    return is_places(count, value) and is_ascending(value)


def is_pair_form(count, value):
    """Whether the value is a tuple (x, y) of two of so many places, x less than y."""
    return is_lot_form(count, value) and len(value) == 2


def is_web_form(value):
    """Whether the value is a web."""
    if not is_tuple(value) or len(value) != 2:
        return False
    count, ties = value
    if not is_within(count, 1, MOST_PLACES) or not is_tuple(ties):
        return False
    # The ties are compared only when all are pairs: values of other kinds need not be comparable.
    return all([is_pair_form(count, tie) for tie in ties]) and is_ascending(ties)
