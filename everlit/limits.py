"""The bounds of all numbers, and the checks that ask for them."""

LONGEST_NAME = 8
MOST_FIBRES = 16
MOST_ROWS = 6
MOST_SIGNALS = 12

BOUNDS = {
    "length": (1, 10000),
    "span": (1, 160000),
    "factor": (1, 8),
    "rate": (1, 16),
    "band": (1, 64),
    "place": (0, 63),
    "fibre": (0, 15),
}


def is_integer(value):
    """Whether any value is an integer; True and False are none."""
    return isinstance(value, int) and not isinstance(value, bool)


def is_within(word, value):
    """Whether any value is an integer within the bounds of this word."""
    least, most = BOUNDS[word]
    return is_integer(value) and least <= value <= most


def entries_of(values):
    """The list of the values; a list among them stands for its entries."""
    found = []
    for value in values:
        if isinstance(value, list):
            found.extend(value)
        else:
            found.append(value)
    return found
