"""Checks of what bars room, room after ticks and lesser bands. The certificates may be any values."""

from everlit.chaincheck import are_linked, chain_weight
from everlit.falls import chain_bound, from_top, leads_down, leads_up
from everlit.limits import is_integer
from everlit.orders import order_of
from everlit.rooms import wishes_in
from everlit.wishes import walls_for


def shows_barred(layout, wish, value):
    """Whether any value is a tuple of rows that bar all places of a wished item."""
    width, others, _ = walls_for(layout, [wish])[0]
    if not isinstance(value, tuple):
        return False
    order = order_of(layout)
    widths = order.widths
    free = {place: True for place in range(layout.band - width + 1)}
    for row in value:
        if not is_barring_row(order, others, row):
            return False
        low, high = low_and_high(widths, layout.band, row)
        for place in range(max(0, high - width + 1), low + widths[row[0]]):
            free.pop(place, None)
    return len(free) == 0


def is_barring_row(order, others, value):
    """Whether any value is a row of an item that clashes, a chain below it and one above it."""
    if not isinstance(value, tuple) or len(value) != 3 or value[0] not in others:
        return False
    item, lower, upper = value
    if not isinstance(lower, tuple) or not isinstance(upper, tuple):
        return False
    return are_linked(order, (*lower, item)) and are_linked(order, (item, *upper))


def low_and_high(widths, band, row):
    """How low and how high the chains of a row let its item go."""
    item, lower, upper = row
    low = sum([widths[other] for other in lower])
    return low, band - widths[item] - sum([widths[other] for other in upper])


def shows_throws(layout, placed, value):
    """Whether any value is a tuple of the steps of a bound that bars placed wishes."""
    walls = walls_for(layout, wishes_in(placed))
    if not isinstance(value, tuple) or value == ():
        return False
    stops = [(place, walls[index][0], walls[index][1]) for index, (_, place) in enumerate(placed)]
    order = order_of(layout)
    if not is_pair(value[0], "first") or value[0][1] not in order.members:
        return False
    item = value[0][1]
    bound = 0
    widths = order.widths
    for step in value[1:]:
        if is_pair(step, "pushed") and (item, step[1]) in order:
            bound += widths[item]
            item = step[1]
        elif is_pair(step, "thrown") and is_throw(stops, item, widths[item], bound, step[1]):
            bound = stops[step[1]][0] + stops[step[1]][1]
        else:
            return False
    return bound > layout.band - widths[item]


def is_pair(value, word):
    """Whether any value is a pair that begins with this word."""
    return isinstance(value, tuple) and len(value) == 2 and value[0] == word


def is_throw(stops, item, width, bound, index):
    """Whether any value is the index of a wish that throws an item with this bound."""
    if not is_integer(index) or not 0 <= index < len(stops):
        return False
    place, wide, items = stops[index]
    return item in items and place - width < bound < place + wide


def shows_not_sooner(layout, wish, ticks, value):
    """Whether any value has a row of width chains against each place, for so many ticks."""
    width, others, _ = walls_for(layout, [wish])[0]
    if not isinstance(value, tuple) or len(value) != max(0, layout.band - width + 1):
        return False
    for place, row in enumerate(value):
        if not isinstance(row, tuple) or len(row) != 3 or row[0] not in others:
            return False
        item, down, up = row
        if not leads_down(layout.order, down) or not leads_up(layout.order, up):
            return False
        if not is_chain_of(item, ticks, down) or not is_chain_of(item, ticks, up):
            return False
        if chain_bound(layout, down, ticks, layout[down[-1]][1]) + layout.width(item) <= place:
            return False
        last = from_top(layout, up[-1], layout[up[-1]][1])
        if from_top(layout, item, chain_bound(layout, up, ticks, last)) >= place + width:
            return False
    return True


def is_chain_of(item, ticks, items):
    """Whether a tuple of items begins with this one and is short enough for so many ticks."""
    return items[0] == item and len(items) - 1 <= ticks


def shows_heavy(layout, band, value):
    """Whether any value is a chain of the order of a layout that is heavier than a band."""
    weight = chain_weight(order_of(layout), value)
    return weight is not None and weight > band
