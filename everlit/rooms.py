"""Room for wished items: the places that others bar, and layouts in which they have slid away."""

from everlit.bounds import bounds_over, least_over, pile_of
from everlit.errors import InvalidWish, TooWide
from everlit.kinds import is_light, reserve_of
from everlit.layouts import share_slot
from everlit.limits import entries_of, is_integer
from everlit.wishes import layout_with, walls_for

WIDEST_PAIR = 16


def bars(layout, wish):
    """The ascending list of (first, last, item): the places that each of the others bars."""
    return spans_barred(layout, walls_for(layout, [wish])[0])


def spans_barred(layout, wall):
    """The list that bars returns, for the wall of the wish."""
    order = layout.order
    tops = {item: order.low(item) + layout.width(item) for item in wall[1]}
    highs = {item: order.high(item, layout.band) for item in wall[1]}
    return spans_between(layout.band, wall, tops, highs)


def spans_between(band, wall, tops, highs):
    """The ascending list of (first, last, item): the places that each of the others bars.

    Tops tell the first slot behind the lowest place of each, highs its highest place.
    """
    width, others, _ = wall
    found = []
    for item in others:
        first = max(0, highs[item] - width + 1)
        last = min(band - width, tops[item] - 1)
        if first <= last:
            found.append((first, last, item))
    return sorted(found)


def least_free(spans, most):
    """The least place up to the greatest one that none of some ascending spans bars, or None."""
    place = 0
    for first, last, _ in spans:
        if first <= place <= last:
            place = last + 1
    return place if place <= most else None


def room(layout, wish):
    """The least place for the wished item and a layout with it, or rows that bar all places."""
    wall = walls_for(layout, [wish])[0]
    place = place_for(layout, wall)
    if place is None:
        return ("barred", barring_rows(layout, wall))
    return ("room", place, layout_with(layout, places_aside(layout, wall, place), [(wish, place)]))


def room_aside(layout, wish):
    """Either "room", the least place and the layout of the others aside, or "barred", rows and None."""
    wall = walls_for(layout, [wish])[0]
    place = place_for(layout, wall)
    if place is None:
        return ("barred", barring_rows(layout, wall), None)
    return ("room", place, layout.placed(places_aside(layout, wall, place)))


def place_for(layout, wall):
    """The least place for the wished item, or None, by its wall."""
    return least_free(spans_barred(layout, wall), layout.band - wall[0])


def places_aside(layout, wall, place):
    """The dict of the least places of the others that leave this place to the wished item."""
    width, others, _ = wall
    return least_over(pile_of(layout), {item: 0 for item in layout.spots}, [(place, width, others)])


def barring_rows(layout, wall):
    """The tuple of the rows of all items that bar some place."""
    return tuple([barring_row(layout, layout.order, item) for _, _, item in spans_barred(layout, wall)])


def barring_row(layout, order, item):
    """A row of an item with the heaviest chains below and above it."""
    widths = order.widths
    low = {other: order.low(other) for other in widths}
    tops = {other: layout.band - order.high(other, layout.band) - widths[other] for other in widths}
    below = heaviest_beyond(widths, order.lowers, low, item)
    return (item, below[::-1], heaviest_beyond(widths, order.uppers, tops, item))


def heaviest_beyond(widths, links, weights, item):
    """A heaviest chain along the links that begins directly behind an item.

    Weights tell for each item how heavy such a chain is.
    """
    found = []
    at = item
    while weights[at] > 0:
        at = [after for after in links[at] if weights[after] + widths[after] == weights[at]][0]
        found.append(at)
    return tuple(found)


def room_at(layout, *placed):
    """The least layout of the others that avoids placed wishes, with their items, or what bars it."""
    told = entries_of(placed)
    walls = walls_for(layout, wishes_in(told))
    return answer_at(layout, pile_of(layout), walls, told)


def wishes_in(placed):
    """The list of the wishes of placed ones; None, which is no wish, for what is none."""
    found = []
    for pair in placed:
        right = isinstance(pair, tuple) and len(pair) == 2 and is_integer(pair[1])
        found.append(pair[0] if right else None)
    return found


def answer_at(layout, pile, walls, placed):
    """What room_at returns, for the pile of the others and the walls of the placed wishes."""
    spans = [(place, place + walls[index][0]) for index, (_, place) in enumerate(placed)]
    for index, (first, behind) in enumerate(spans):
        if first < 0 or behind > layout.band:
            return ("over", index)
    for index, span in enumerate(spans):
        for other in walls[index][2]:
            if share_slot(span, spans[other]):
                return ("overlap", index, other)
    stops = [(place, walls[index][0], walls[index][1]) for index, (_, place) in enumerate(placed)]
    found = bounds_over(pile, {item: 0 for item, _, _ in pile}, stops)
    for item in found:
        bound, steps = found[item]
        if bound + layout.width(item) > layout.band:
            return ("barred", steps)
    return ("room", layout_with(layout, {item: found[item][0] for item in found}, placed))


def room_pair(layout, wish, route):
    """The first pair of places for a new light and its reserve, or what bars each pair."""
    if not isinstance(wish, tuple) or len(wish) != 3 or not is_light(wish[0]):
        raise InvalidWish("wish")
    reserve = (reserve_of(wish[0]), route, None)
    walls = walls_for(layout, [wish, reserve])
    if layout.band > WIDEST_PAIR:
        raise TooWide(WIDEST_PAIR)
    pile = pile_of(layout)
    rows = []
    for place in range(layout.band - walls[0][0] + 1):
        for other in range(layout.band - walls[1][0] + 1):
            answer = answer_at(layout, pile, walls, [(wish, place), (reserve, other)])
            if answer[0] == "room":
                return ("room", place, other, answer[1])
            rows.append((place, other, answer))
    return ("barred", tuple(rows))
