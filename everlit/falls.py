"""Lowest places of items, tick by tick, and the width chains that tell them.

Upwards the same holds in the mirrored layout.
"""

from everlit.chaincheck import chain_weight
from everlit.links import links_of
from everlit.orders import order_of


def falling(layout):
    """The dicts of the lowest places after 0 ticks, 1 tick and so on, up to the one that stays."""
    order = order_of(layout)
    widths = order.widths
    lowers = lowers_in(order)
    rows = [{item: layout[item][1] for item in widths}]
    after = lowered(widths, lowers, rows[-1])
    while after != rows[-1]:
        rows.append(after)
        after = lowered(widths, lowers, after)
    return rows


def rising(layout):
    """The dicts of the highest places after 0 ticks, 1 tick and so on, up to the one that stays."""
    found = []
    for row in falling(layout.mirrored()):
        found.append({item: layout.band - layout.width(item) - row[item] for item in row})
    return found


def lowered(widths, lowers, row):
    """The lowest places one tick after those of a row."""
    found = {}
    for item in row:
        pushed = [row[lower] + widths[lower] for lower in lowers[item]]
        found[item] = max([0, row[item] - 1] + pushed)
    return found


def row_after(rows, ticks):
    """The row after any number of ticks; the last one stays."""
    return rows[min(ticks, len(rows) - 1)]


def lowers_in(order):
    """The dict from each item of an order to the list of the items directly below it."""
    return links_of(order.members, [(upper, lower) for lower, upper in order.pairs])


def width_chain(layout, rows, item, ticks):
    """A width chain downwards whose bound for so many ticks is the lowest place of the item."""
    order = order_of(layout)
    widths = order.widths
    lowers = lowers_in(order)
    found = [item]
    for left in range(ticks, 0, -1):
        # What waits at an item waits there to the end, as an item below would have told as much.
        told = row_after(rows, left)[found[-1]]
        before = row_after(rows, left - 1)
        pushing = [lower for lower in lowers[found[-1]] if before[lower] + widths[lower] == told]
        if not pushing:
            break
        found.append(pushing[0])
    return tuple(found)


def leads_down(order, value):
    """Whether any value is a tuple of items each of which is directly above the next one."""
    return isinstance(value, tuple) and chain_weight(order, value[::-1]) is not None


def weight_behind(layout, items):
    """The sum of the widths of the items behind the first one."""
    return sum([layout.width(item) for item in items[1:]])


def chain_bound(layout, items, ticks):
    """The bound of a width chain downwards for so many ticks."""
    waits = ticks - (len(items) - 1)
    return weight_behind(layout, items) + max(0, layout[items[-1]][1] - waits)
