"""Room and lesser bands after the fewest ticks."""

from everlit.bounds import least_over
from everlit.errors import InvalidBand
from everlit.falls import falling, rising, row_after
from everlit.limits import is_integer
from everlit.orders import order_of
from everlit.rooms import room
from everlit.wishes import walls_for


def soonest(layout, wish):
    """The fewest ticks after which a wished item has room, the place and a layout with room for it."""
    answer = room(layout, wish)
    if answer[0] == "barred":
        return answer
    width, others, _ = walls_for(layout, [wish])[0]
    lowest = falling(layout)
    highest = rising(layout)
    ticks = 0
    place = place_between(layout, (width, others), lowest[0], highest[0])
    while place is None:
        ticks += 1
        low = row_after(lowest, ticks)
        place = place_between(layout, (width, others), low, row_after(highest, ticks))
    walls = [(place, width, others)]
    places = least_over(layout, order_of(layout), row_after(lowest, ticks), walls)
    return ("soon", ticks, place, layout.placed(places))


def place_between(layout, wall, low, high):
    """The least place at which a wished item has room between lowest and highest places, or None."""
    width, others = wall
    for place in range(layout.band - width + 1):
        beside = [low[item] + layout.width(item) <= place or high[item] >= place + width for item in others]
        if all(beside):
            return place
    return None


def narrowed(layout, band):
    """The fewest ticks after which a layout fits a lesser band and such a layout, or a heavier chain."""
    if not is_integer(band) or not 1 <= band <= layout.band:
        raise InvalidBand(band)
    order = order_of(layout)
    if order.weight > band:
        return ("chain", order.chain)
    rows = falling(layout)
    ticks = 0
    while not fits_below(layout, rows[ticks], band):
        ticks += 1
    return ("fits", ticks, layout.placed(rows[ticks]).in_band(band))


def fits_below(layout, places, band):
    """Whether no item at these places holds a slot from the band on."""
    return all([places[item] + layout.width(item) <= band for item in places])
