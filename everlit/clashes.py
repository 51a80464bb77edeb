"""Calls of signals, which items clash, and who holds a slot. Clashes depend on the routes alone."""

from everlit.errors import NoFibre, NoItem
from everlit.kinds import is_reserve, signal_of, twin_of
from everlit.routes import common, ducts_of


def calls_among(net, routes, name):
    """The ascending tuple of the calls of a signal, by a dict from the items to their routes."""
    met = ducts_of(net, routes[name])
    twin = twin_of(name)
    if twin in routes:
        also = ducts_of(net, routes[twin])
        met = tuple([duct for duct in met if duct in also])
    return met


def clash_among(net, routes, one, other):
    """Whether two different items clash, by a dict from the items to their routes."""
    if common(routes[one], routes[other]) == ():
        return False
    if not is_reserve(one) and not is_reserve(other):
        return True
    if not is_reserve(one):
        return misses_call(net, routes, other, one)
    if not is_reserve(other):
        return misses_call(net, routes, one, other)
    calls = calls_among(net, routes, signal_of(other))
    return any([duct in calls for duct in calls_among(net, routes, signal_of(one))])


def misses_call(net, routes, reserve, lit):
    """Whether a lit item misses a call of the signal of a reserve."""
    met = ducts_of(net, routes[lit])
    return any([duct not in met for duct in calls_among(net, routes, signal_of(reserve))])


def routes_in(layout):
    """The dict from the items of a layout to their routes."""
    spots = layout.spots
    return {item: spots[item][0] for item in spots}


def clash(layout, one, other):
    """Whether two items of a layout clash; False if they are the same."""
    for item in (one, other):
        if item not in layout:
            raise NoItem(item)
    return one != other and clash_among(layout.net, routes_in(layout), one, other)


def clashing(layout):
    """Yields the pairs of items that clash, each with the lesser item first, in ascending order."""
    routes = routes_in(layout)
    items = list(routes)
    for at, one in enumerate(items):
        for other in items[at + 1:]:
            if clash_among(layout.net, routes, one, other):
                yield (one, other)


def occupants(layout, index):
    """A tuple with the ascending tuple of the items that hold it, for each slot of a fibre."""
    if index not in layout.net:
        raise NoFibre(index)
    held = held_on(layout, index)
    return tuple([holders(held, slot) for slot in range(layout.band)])


def held_on(layout, index):
    """The list of the items on a fibre, each with its first slot and the first one behind it."""
    spots = layout.spots
    found = []
    for item in spots:
        route, place = spots[item]
        if index in route:
            found.append((item, place, place + layout.width(item)))
    return found


def holders(held, slot):
    """The tuple of those items that hold a slot, in their order."""
    return tuple([item for item, first, behind in held if first <= slot < behind])
