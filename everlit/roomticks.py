"""Room and lesser bands after the fewest ticks."""

from everlit.bounds import least_over, pile_of
from everlit.errors import InvalidBand
from everlit.falls import falls_down, falls_up, from_top
from everlit.layouts import Layout
from everlit.limits import is_integer
from everlit.rooms import barring_rows, least_free, place_for, spans_between
from everlit.wishes import walls_for


def soonest(layout, wish):
    """The fewest ticks after which a wished item has room, the place and a layout with room for it."""
    wall = walls_for(layout, [wish])[0]
    if place_for(layout, wall) is None:
        return ("barred", barring_rows(layout, wall))
    down = falls_down(layout)
    up = falls_up(layout)
    ticks = 0
    most = max(down.longest(), up.longest())
    # Room that is there after some ticks is there after more ticks, too.
    while ticks < most:
        middle = (ticks + most) // 2
        if place_after(layout, wall, down, up, middle) is None:
            ticks = middle + 1
        else:
            most = middle
    place = place_after(layout, wall, down, up, ticks)
    places = least_over(pile_of(layout), down.after(ticks), [(place, wall[0], wall[1])])
    return ("soon", ticks, place, layout.placed(places))


def place_after(layout, wall, down, up, ticks):
    """The least place at which a wished item has room after so many ticks, or None."""
    low = down.after(ticks)
    high = up.after(ticks)
    tops = {item: low[item] + layout.width(item) for item in wall[1]}
    highs = {item: from_top(layout, item, high[item]) for item in wall[1]}
    return least_free(spans_between(layout.band, wall, tops, highs), layout.band - wall[0])


def narrowed(layout, band):
    """The fewest ticks after which a layout fits a lesser band and such a layout, or a heavier chain."""
    if not is_integer(band) or not 1 <= band <= layout.band:
        raise InvalidBand(band)
    order = layout.order
    if order.weight > band:
        return ("chain", order.chain)
    down = falls_down(layout)
    ticks = down.ticks_to({item: band - layout.width(item) for item in layout.spots})
    places = down.after(ticks)
    spots = {item: (layout[item][0], places[item]) for item in places}
    return ("fits", ticks, Layout(layout.net, band, layout.rates, spots))
