"""Names, and the items of a signal."""

from everlit.limits import LONGEST_NAME

LETTERS = "abcdefghijklmnopqrstuvwxyz"
TWIN = "+"
RESERVE = "*"


def is_name(value):
    """Whether any value is a name."""
    if not isinstance(value, str) or not 1 <= len(value) <= LONGEST_NAME:
        return False
    return value.strip(LETTERS) == ""


def is_item(value):
    """Whether any value is an item."""
    return is_light(value) or is_twin(value) or is_reserve(value)


def is_light(value):
    """Whether any value is the item of a light."""
    return is_name(value)


def is_twin(value):
    """Whether any value is the item of a twin."""
    return is_marked(value, TWIN)


def is_reserve(value):
    """Whether any value is the item of a reserve."""
    return is_marked(value, RESERVE)


def is_marked(value, mark):
    """Whether any value is a name with this mark behind it."""
    return isinstance(value, str) and value.endswith(mark) and is_name(value[:-1])


def signal_of(item):
    """The name of the signal of an item."""
    return item.rstrip(TWIN + RESERVE)


def twin_of(name):
    """The item of the twin of a signal."""
    return name + TWIN


def reserve_of(name):
    """The item of the reserve of a signal."""
    return name + RESERVE
