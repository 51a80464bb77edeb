"""Demands on the numbers of hops of signals, which every plain plan between two layouts meets."""

from everlit.errors import Unlike
from everlit.kinds import twin_of
from everlit.routes import common


def need_same_signals(first, goal):
    """Raises Unlike if two layouts differ in their net or in their signals, or have a twin."""
    if first.net != goal.net:
        raise Unlike(None)
    ahead = first.rates
    behind = goal.rates
    for name in sorted(list(ahead) + list(behind)):
        if name not in ahead or name not in behind or ahead[name] != behind[name]:
            raise Unlike(name)
    for layout in (first, goal):
        if layout.doubled is not None:
            raise Unlike(twin_of(layout.doubled))


def demands(first, goal):
    """The ascending list of the demands."""
    need_same_signals(first, goal)
    turns = pairs_turned(first, goal)
    found = [("pair", min(pair), max(pair)) for pair in turns]
    found.extend([("route", name) for name in first.signals if first[name][0] != goal[name][0]])
    for lower, own in turns:
        found.extend([("own", own, lower, upper) for other, upper in turns if other == own])
    return sorted(found)


def pairs_turned(first, goal):
    """The list of the pairs (lower, upper) of lights in first that are turned in goal."""
    found = []
    for lower in first.signals:
        for upper in first.signals:
            if is_below(first, lower, upper) and is_below(goal, upper, lower):
                found.append((lower, upper))
    return found


def is_below(layout, lower, upper):
    """Whether two lights clash and the first one has the lesser place."""
    return common(layout[lower][0], layout[upper][0]) != () and layout[lower][1] < layout[upper][1]


def ways_of(demand):
    """The list of the ways to meet a demand, each a signal and how often it hops."""
    word = demand[0]
    if word == "own":
        return [(demand[1], 2), (demand[2], 1), (demand[3], 1)]
    return [(name, 1) for name in demand[1:]]


def is_met(demand, counts):
    """Whether counts meet a demand."""
    return any([counts.get(name, 0) >= many for name, many in ways_of(demand)])


def unmet(first, goal, counts):
    """The ascending list of the demands that counts do not meet."""
    return [demand for demand in demands(first, goal) if not is_met(demand, counts)]
