"""Whether two layouts are alike, and which pairs of their orders are turned."""

from everlit.errors import Turned, Unlike
from everlit.orders import order_of


def need_alike(first, goal):
    """Raises Unlike if two layouts are not alike."""
    if first.net != goal.net or first.band != goal.band:
        raise Unlike(None)
    for item in sorted(list(first.spots) + list(goal.spots)):
        if not is_same(first, goal, item):
            raise Unlike(item)


def is_same(first, goal, item):
    """Whether two layouts with the same net have an item with the same route and width."""
    if item not in first or item not in goal:
        return False
    return first[item][0] == goal[item][0] and first.width(item) == goal.width(item)


def turned(first, goal):
    """The ascending list of the pairs of the order of first that are the other way round in goal."""
    need_alike(first, goal)
    places = {item: goal[item][1] for item in goal.spots}
    return [(lower, upper) for lower, upper in order_of(first).pairs if places[lower] > places[upper]]


def need_unturned(first, goal):
    """Raises Unlike or Turned if slides do not lead from one layout to the other one."""
    found = turned(first, goal)
    if found:
        lower, upper = found[0]
        raise Turned(lower, upper)
