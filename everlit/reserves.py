"""Reserves: who has one, which share slots, and where one has room."""

from everlit.clashes import routes_in
from everlit.errors import NoItem
from everlit.kinds import is_name, is_reserve, reserve_of
from everlit.layouts import meets_own_call, share_slot
from everlit.roomcheck import shows_barred
from everlit.rooms import room
from everlit.routes import common, ends_of, factor_for, is_route, length_along, routes_between, width_of


def guarded(layout):
    """The ascending tuple of the signals with a reserve."""
    return tuple([name for name in layout.signals if reserve_of(name) in layout])


def bare(layout):
    """The ascending tuple of the signals without a reserve."""
    return tuple([name for name in layout.signals if reserve_of(name) not in layout])


def shared(layout):
    """Yields the pairs of reserves that overlap, in ascending order."""
    items = [item for item in layout.spots if is_reserve(item)]
    for at, one in enumerate(items):
        for other in items[at + 1:]:
            if overlap(layout, one, other):
                yield (one, other)


def overlap(layout, one, other):
    """Whether two items hold the same slot of the same fibre."""
    spans = []
    for item in (one, other):
        place = layout[item][1]
        spans.append((place, place + layout.width(item)))
    return share_slot(spans[0], spans[1]) and common(layout[one][0], layout[other][0]) != ()


def guard_routes(layout, name):
    """Yields the routes that a reserve of a signal can have."""
    found = routes_for_reserve(layout, name)
    for route in found:
        yield route


def routes_for_reserve(layout, name):
    """The list of the routes that a reserve of a signal, any value, can have."""
    if not is_name(name) or name not in layout:
        raise NoItem(name)
    one, other = ends_of(layout.net, layout[name][0])
    routes = list(routes_between(layout.net, one, other))
    return [route for route in routes if can_guard(layout, name, route)]


def can_guard(layout, name, route):
    """Whether a route between the ends of a signal is one for its reserve, as far as calls and width go."""
    net = layout.net
    if factor_for(net, length_along(net, route)) is None:
        return False
    if width_of(net, route, layout.rates[name]) > layout.band:
        return False
    item = reserve_of(name)
    return not meets_own_call(net, {**routes_in(layout), item: route}, item)


def guard(layout, name):
    """The first route with room for the reserve of a signal, its place and a layout, or what bars all."""
    rows = []
    for route in routes_for_reserve(layout, name):
        answer = room(layout, (reserve_of(name), route, None))
        if answer[0] == "room":
            return ("room", route, answer[1], answer[2])
        rows.append((route, answer[1]))
    return ("barred", tuple(rows))


def shows_unguardable(layout, name, value):
    """Whether any value has rows that bar all places on each route for the reserve of a signal."""
    routes = routes_for_reserve(layout, name)
    if not isinstance(value, tuple) or len(value) != len(routes):
        return False
    for route, row in zip(routes, value):
        if not isinstance(row, tuple) or len(row) != 2:
            return False
        # A tuple with True in the place of 1 is equal, but it is no route.
        if not is_route(layout.net, row[0]) or row[0] != route:
            return False
        if not shows_barred(layout, (reserve_of(name), route, None), row[1]):
            return False
    return True
