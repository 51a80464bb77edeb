"""Calls of signals, and which items clash. Both depend on the routes of the items alone."""

from everlit.kinds import is_reserve, signal_of, twin_of
from everlit.routes import common, ducts_of


def calls_among(net, routes, name):
    """The ascending tuple of the calls of a signal, by a dict from the items to their routes."""
    met = ducts_of(net, routes[name])
    twin = twin_of(name)
    if twin in routes:
        also = ducts_of(net, routes[twin])
        met = tuple([duct for duct in met if duct in also])
    return met


def clash_among(net, routes, one, other):
    """Whether two different items clash, by a dict from the items to their routes."""
    if common(routes[one], routes[other]) == ():
        return False
    if not is_reserve(one) and not is_reserve(other):
        return True
    if not is_reserve(one):
        return misses_call(net, routes, other, one)
    if not is_reserve(other):
        return misses_call(net, routes, one, other)
    calls = calls_among(net, routes, signal_of(other))
    return any([duct in calls for duct in calls_among(net, routes, signal_of(one))])


def misses_call(net, routes, reserve, lit):
    """Whether a lit item misses a call of the signal of a reserve."""
    met = ducts_of(net, routes[lit])
    return any([duct not in met for duct in calls_among(net, routes, signal_of(reserve))])
