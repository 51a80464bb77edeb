"""Wishes: what is wrong about any value as a wish, and what right ones meet on a layout."""

from everlit.clashes import rivals_among, routes_in
from everlit.errors import InvalidWish
from everlit.kinds import is_item, is_light, is_reserve, is_twin, reserve_of, signal_of, twin_of
from everlit.layouts import Layout, meets_own_call
from everlit.limits import MOST_SIGNALS, is_within
from everlit.routes import ends_of, factor_for, is_route, length_along, width_of


def wish_word(net, rates, routes, wish):
    """The first word that is wrong about any value as a wish, or None.

    Rates and routes are those of the layout and of the wishes ahead.
    """
    if not is_wish(rates, routes, wish):
        return "wish"
    item, route, rate = wish
    if is_light(item) and len(rates) >= MOST_SIGNALS:
        return "many"
    if not (is_within("rate", rate) if is_light(item) else rate is None):
        return "rate"
    if not is_route(net, route) or not has_ends(net, routes, item, route):
        return "route"
    if factor_for(net, length_along(net, route)) is None:
        return "far"
    if is_reserve(item) and meets_own_call(net, {**routes, item: route}, item):
        return "calls"
    return None


def is_wish(rates, routes, value):
    """Whether any value is a tuple of three with an item that can be wished."""
    if not isinstance(value, tuple) or len(value) != 3 or not is_item(value[0]):
        return False
    item = value[0]
    if is_light(item):
        return item not in rates
    if is_twin(item) and any([is_twin(other) for other in routes]):
        return False
    return signal_of(item) in rates


def has_ends(net, routes, item, route):
    """Whether a route has the ends that an item of its signal needs."""
    return is_light(item) or ends_of(net, route) == ends_of(net, routes[signal_of(item)])


def are_paired(wishes, wish):
    """Whether any value wishes the twin and a wish ahead the reserve of a signal, or the other way."""
    if not isinstance(wish, tuple) or wish == () or not (is_twin(wish[0]) or is_reserve(wish[0])):
        return False
    name = signal_of(wish[0])
    other = reserve_of(name) if is_twin(wish[0]) else twin_of(name)
    return other in [ahead[0] for ahead in wishes]


def with_wishes(layout, wishes):
    """The dicts of the rates and of the routes of a layout with the items of wishes, any values.

    Each wish is looked at as if the items of those ahead were there; raises InvalidWish.
    """
    rates = layout.rates
    routes = routes_in(layout)
    for at, wish in enumerate(wishes):
        word = "wish" if are_paired(wishes[:at], wish) else wish_word(layout.net, rates, routes, wish)
        if word is not None:
            raise InvalidWish(word)
        item, route, rate = wish
        routes[item] = route
        if rate is not None:
            rates[item] = rate
    return rates, routes


def walls_for(layout, wishes):
    """A list of the tuples (width, others, rivals) of the wishes, any values; raises InvalidWish.

    Others are the items of the layout, and rivals the indexes of the wishes, that clash with the
    wished item. A reserve that is wished elsewhere clashes with nothing where it stands.
    """
    rates, routes = with_wishes(layout, wishes)
    wanted = [wish[0] for wish in wishes]
    found = []
    for item in wanted:
        rivals = rivals_among(layout.net, routes, item)
        width = width_of(layout.net, routes[item], rates[signal_of(item)])
        others = tuple([other for other in rivals if other not in wanted])
        indexes = tuple([at for at, other in enumerate(wanted) if other in rivals])
        found.append((width, others, indexes))
    return found


def layout_with(layout, places, placed):
    """The layout with the others at these places and with the items of placed wishes."""
    rates = layout.rates
    spots = {item: (layout[item][0], places[item]) for item in places}
    for (item, route, rate), place in placed:
        spots[item] = (route, place)
        if rate is not None:
            rates[item] = rate
    return Layout(layout.net, layout.band, rates, spots)
