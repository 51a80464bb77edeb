"""How low and how high the items of a layout can lie, and its heaviest chains."""

from everlit.orders import order_of
from everlit.turned import need_unturned


def lows(layout):
    """The dict from each item to its low."""
    order = order_of(layout)
    return {item: order.low(item) for item in order.members}


def highs(layout):
    """The dict from each item to its high."""
    order = order_of(layout)
    return {item: order.high(item, layout.band) for item in order.members}


def settled(layout):
    """The layout with all items at their lows."""
    return layout.placed(lows(layout))


def lifted(layout):
    """The layout with all items at their highs."""
    return layout.placed(highs(layout))


def heaviest_chain(layout):
    """Any heaviest chain of the order of a layout."""
    return order_of(layout).chain


def least_band(layout):
    """The weight of the heaviest chain of a layout, 0 without items."""
    return order_of(layout).weight


def spread(one, other):
    """The layouts with the lesser and with the greater place of each item in two layouts."""
    need_unturned(one, other)
    pairs = {item: (one[item][1], other[item][1]) for item in one.spots}
    lesser = one.placed({item: min(pairs[item]) for item in pairs})
    greater = one.placed({item: max(pairs[item]) for item in pairs})
    return (lesser, greater)
