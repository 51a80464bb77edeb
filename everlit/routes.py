"""Routes of a net: their paths, lengths, ducts, factors and widths."""

from everlit.errors import InvalidRoute, NoStation, TooFar
from everlit.limits import entries_of


def far_end(fibre, station):
    """The other station of a fibre, or None if the fibre does not end at the station."""
    if station == fibre[0]:
        return fibre[1]
    if station == fibre[1]:
        return fibre[0]
    return None


def path_from(fibres, start, route):
    """The stations that a tuple of numbers of fibres leads along from the start; () if it is no path."""
    path = [start]
    for index in route:
        station = far_end(fibres[index], path[-1])
        if station is None or station in path:
            return ()
        path.append(station)
    return tuple(path)


def path_of(net, value):
    """The tuple of the stations on the path of any value; () if it is no route of the net."""
    if not isinstance(value, tuple) or value == () or not all([index in net for index in value]):
        return ()
    fibres = net.fibres
    # Only one of both ends of the first fibre can begin a path of several fibres.
    for start in fibres[value[0]][:2]:
        path = path_from(fibres, start, value)
        if path != () and path[0] < path[-1]:
            return path
    return ()


def is_route(net, value):
    """Whether any value is a route of the net."""
    return path_of(net, value) != ()


def stations_on(net, route):
    """The tuple of the stations on the path of a route."""
    path = path_of(net, route)
    if path == ():
        raise InvalidRoute(route)
    return path


def ends_of(net, route):
    """The pair of the ends of a route."""
    path = stations_on(net, route)
    return (path[0], path[-1])


def need_route(net, value):
    """Raises InvalidRoute if any value is no route of the net."""
    if not is_route(net, value):
        raise InvalidRoute(value)


def length_of(net, route):
    """The length of a route."""
    need_route(net, route)
    return length_along(net, route)


def length_along(net, route):
    """The sum of the lengths of the fibres."""
    fibres = net.fibres
    return sum([fibres[index][2] for index in route])


def ducts_of(net, route):
    """The ascending tuple of the ducts that a route meets."""
    need_route(net, route)
    return ducts_along(net, route)


def ducts_along(net, route):
    """The ascending tuple of the ducts in which the fibres lie."""
    fibres = net.fibres
    return tuple(sorted({fibres[index][3] for index in route}))


def factor_for(net, length):
    """The factor of routes of this length; None if they are too far."""
    reach = net.reach
    if reach == ():
        return 1
    for most, factor in reach:
        if length <= most:
            return factor
    return None


def factor_of(net, route):
    """The factor of a route."""
    length = length_of(net, route)
    factor = factor_for(net, length)
    if factor is None:
        raise TooFar(length)
    return factor


def width_of(net, route, rate):
    """The width of an item with this rate on a route."""
    return rate * factor_of(net, route)


def routes_between(net, one, other):
    """Yields all routes between two stations, by ascending length, then in ascending order."""
    for name in (one, other):
        if name not in net.stations:
            raise NoStation(name)
    found = [] if one == other else paths_between(net, min(one, other), max(one, other))
    for _, route in sorted([(length_along(net, route), route) for route in found]):
        yield route


def paths_between(net, start, goal):
    """The list of all routes from one station to another one, in no stated order."""
    found = []
    begun = [((), (start,))]
    while begun:
        route, path = begun.pop()
        for index, fibre in enumerate(net.fibres):
            station = far_end(fibre, path[-1])
            if station is None or station in path:
                continue
            if station == goal:
                found.append((*route, index))
            else:
                begun.append(((*route, index), (*path, station)))
    return found


def common(*routes):
    """The ascending tuple of the fibres that all of the routes have; () without routes."""
    told = entries_of(routes)
    if not told:
        return ()
    return tuple(sorted([index for index in told[0] if all([index in route for route in told])]))
