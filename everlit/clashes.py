"""Calls of signals, which items clash, and who holds a slot. Clashes depend on the routes alone."""

from everlit.errors import NoFibre, NoItem
from everlit.kinds import RESERVE, signal_of, twin_of
from everlit.routes import ducts_along


def calls_among(net, routes, name):
    """The ascending tuple of the calls of a signal, by a dict from the items to their routes."""
    met = ducts_along(net, routes[name])
    twin = twin_of(name)
    if twin in routes:
        also = ducts_along(net, routes[twin])
        met = tuple([duct for duct in met if duct in also])
    return met


def marks_among(net, routes):
    """The dict from items to all that tells whether they clash, by a dict from the items to their routes.

    These are tuples of the marks of a route as nets tell them, and for a reserve of the calls of its
    signal, with a bit for each duct; otherwise of None.
    """
    marks = {item: net.marks(routes[item]) for item in routes}
    found = {}
    for item in routes:
        fibres, ducts = marks[item]
        found[item] = (fibres, ducts, calls_marked(marks, item) if item.endswith(RESERVE) else None)
    return found


def calls_marked(marks, reserve):
    """The calls of the signal of a reserve, with a bit for each duct."""
    name = signal_of(reserve)
    twin = twin_of(name)
    return marks[name][1] & marks[twin][1] if twin in marks else marks[name][1]


def marks_clash(one, other):
    """Whether two different items clash, by what marks_among tells of them."""
    fibres, met, calls = one
    fibres_there, met_there, calls_there = other
    if fibres & fibres_there == 0:
        return False
    if calls is None and calls_there is None:
        return True
    if calls is None:
        return calls_there & met != calls_there
    if calls_there is None:
        return calls & met_there != calls
    return calls & calls_there != 0


def rivals_among(net, routes, item):
    """The list of the other items that clash with an item, by a dict from the items to their routes."""
    marks = marks_among(net, routes)
    return [other for other in routes if other != item and marks_clash(marks[item], marks[other])]


def pairs_clashing(net, routes):
    """The ascending list of the pairs of items that clash, each with the lesser item first."""
    marks = marks_among(net, routes)
    items = sorted(routes)
    found = []
    for at, one in enumerate(items):
        mark = marks[one]
        found.extend([(one, other) for other in items[at + 1:] if marks_clash(mark, marks[other])])
    return found


def routes_in(layout):
    """The dict from the items of a layout to their routes."""
    spots = layout.spots
    return {item: spots[item][0] for item in spots}


def clash(layout, one, other):
    """Whether two items of a layout clash; False if they are the same."""
    for item in (one, other):
        if item not in layout:
            raise NoItem(item)
    if one == other:
        return False
    marks = marks_among(layout.net, routes_in(layout))
    return marks_clash(marks[one], marks[other])


def clashing(layout):
    """Yields the pairs of items that clash, each with the lesser item first, in ascending order."""
    for pair in pairs_clashing(layout.net, routes_in(layout)):
        yield pair


def occupants(layout, index):
    """A tuple with the ascending tuple of the items that hold it, for each slot of a fibre."""
    if index not in layout.net:
        raise NoFibre(index)
    held = held_on(layout, index)
    return tuple([holders(held, slot) for slot in range(layout.band)])


def held_on(layout, index):
    """The list of the items on a fibre, each with its first slot and the first one behind it."""
    spots = layout.spots
    found = []
    for item in spots:
        route, place = spots[item]
        if index in route:
            found.append((item, place, place + layout.width(item)))
    return found


def holders(held, slot):
    """The tuple of those items that hold a slot, in their order."""
    return tuple([item for item, first, behind in held if first <= slot < behind])
