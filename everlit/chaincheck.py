"""Checks of chains and rings that may be any values."""


def are_linked(order, items):
    """Whether each entry of a tuple of any values is a pair with the next one."""
    return all([pair in order for pair in zip(items, items[1:])])


def chain_weight(order, value):
    """The weight of any value that is a chain of one or more items of an order, otherwise None."""
    if not isinstance(value, tuple) or value == () or not are_linked(order, value):
        return None
    # A single entry is in no pair, and any value may stand there.
    if value[0] not in order.members:
        return None
    widths = order.widths
    return sum([widths[item] for item in value])


def shows_ring(order, value):
    """Whether any value is a ring of an order."""
    if not isinstance(value, tuple) or len(value) < 2:
        return False
    return are_linked(order, (*value, value[0])) and len(set(value)) == len(value)
