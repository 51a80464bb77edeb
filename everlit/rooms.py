"""Room for wished items: the places that others bar, and layouts in which they have slid away."""

from everlit.bounds import bounds_over, least_over
from everlit.errors import InvalidWish, TooWide
from everlit.falls import lowers_in
from everlit.kinds import is_light, reserve_of
from everlit.layouts import share_slot
from everlit.limits import entries_of, is_integer
from everlit.links import links_of
from everlit.orders import order_of
from everlit.wishes import layout_with, walls_for

WIDEST_PAIR = 16


def bars(layout, wish):
    """The ascending list of (first, last, item): the places that each of the others bars."""
    return spans_barred(layout, order_of(layout), walls_for(layout, [wish])[0])


def spans_barred(layout, order, wall):
    """The list that bars returns, for the order of the others and the wall of the wish."""
    width, others, _ = wall
    found = []
    for item in others:
        first = max(0, order.high(item, layout.band) - width + 1)
        last = min(layout.band - width, order.low(item) + layout.width(item) - 1)
        if first <= last:
            found.append((first, last, item))
    return sorted(found)


def least_free(spans, most):
    """The least place up to the greatest one that none of the spans bars, or None."""
    for place in range(most + 1):
        if not any([first <= place <= last for first, last, _ in spans]):
            return place
    return None


def room(layout, wish):
    """The least place for the wished item and a layout with it, or rows that bar all places."""
    word, found, aside = room_aside(layout, wish)
    if word == "barred":
        return (word, found)
    places = {item: aside[item][1] for item in aside.spots}
    return (word, found, layout_with(layout, places, [(wish, found)]))


def room_aside(layout, wish):
    """Either "room", the least place and the layout of the others aside, or "barred", rows and None."""
    width, others, rivals = walls_for(layout, [wish])[0]
    order = order_of(layout)
    spans = spans_barred(layout, order, (width, others, rivals))
    place = least_free(spans, layout.band - width)
    if place is None:
        return ("barred", tuple([barring_row(layout, order, item) for _, _, item in spans]), None)
    starts = {item: 0 for item in order.members}
    places = least_over(layout, order, starts, [(place, width, others)])
    return ("room", place, layout.placed(places))


def barring_row(layout, order, item):
    """A row of an item with the heaviest chains below and above it."""
    widths = order.widths
    low = {other: order.low(other) for other in widths}
    tops = {other: layout.band - order.high(other, layout.band) - widths[other] for other in widths}
    below = heaviest_beyond(widths, lowers_in(order), low, item)
    return (item, below[::-1], heaviest_beyond(widths, links_of(widths, order.pairs), tops, item))


def heaviest_beyond(widths, links, weights, item):
    """A heaviest chain along the links that begins directly behind an item.

    Weights tell for each item how heavy such a chain is.
    """
    found = []
    at = item
    while weights[at] > 0:
        at = [after for after in links[at] if weights[after] + widths[after] == weights[at]][0]
        found.append(at)
    return tuple(found)


def room_at(layout, *placed):
    """The least layout of the others that avoids placed wishes, with their items, or what bars it."""
    told = entries_of(placed)
    walls = walls_for(layout, wishes_in(told))
    return answer_at(layout, order_of(layout), walls, told)


def wishes_in(placed):
    """The list of the wishes of placed ones; None, which is no wish, for what is none."""
    found = []
    for pair in placed:
        right = isinstance(pair, tuple) and len(pair) == 2 and is_integer(pair[1])
        found.append(pair[0] if right else None)
    return found


def answer_at(layout, order, walls, placed):
    """What room_at returns, for the walls of the placed wishes."""
    spans = [(place, place + walls[index][0]) for index, (_, place) in enumerate(placed)]
    for index, (first, behind) in enumerate(spans):
        if first < 0 or behind > layout.band:
            return ("over", index)
    for index, span in enumerate(spans):
        for other in walls[index][2]:
            if share_slot(span, spans[other]):
                return ("overlap", index, other)
    stops = [(place, walls[index][0], walls[index][1]) for index, (_, place) in enumerate(placed)]
    found = bounds_over(layout, order, {item: 0 for item in order.members}, stops)
    for item in found:
        bound, steps = found[item]
        if bound + layout.width(item) > layout.band:
            return ("barred", steps)
    return ("room", layout_with(layout, {item: found[item][0] for item in found}, placed))


def room_pair(layout, wish, route):
    """The first pair of places for a new light and its reserve, or what bars each pair."""
    if not isinstance(wish, tuple) or len(wish) != 3 or not is_light(wish[0]):
        raise InvalidWish("wish")
    reserve = (reserve_of(wish[0]), route, None)
    walls = walls_for(layout, [wish, reserve])
    if layout.band > WIDEST_PAIR:
        raise TooWide(WIDEST_PAIR)
    order = order_of(layout)
    rows = []
    for place in range(layout.band - walls[0][0] + 1):
        for other in range(layout.band - walls[1][0] + 1):
            answer = answer_at(layout, order, walls, [(wish, place), (reserve, other)])
            if answer[0] == "room":
                return ("room", place, other, answer[1])
            rows.append((place, other, answer))
    return ("barred", tuple(rows))
