"""Plans in wide bands: each mover hops on top of the others, and later to its place."""

from everlit.clashes import routes_in
from everlit.demands import need_same_signals, pairs_turned
from everlit.errors import TooNarrow, Unlike
from everlit.journeys import settled_moves
from everlit.kinds import is_reserve, twin_of
from everlit.orders import Order
from everlit.plans import after_moves
from everlit.routes import common, width_of
from everlit.slides import slides


def need_bare_pair(first, goal):
    """Raises Unlike if two layouts differ in what movers leave as it is, or have a twin or a reserve."""
    need_same_signals(first, goal)
    if first.band != goal.band:
        raise Unlike(None)
    for item in sorted(list(first.spots) + list(goal.spots)):
        if is_reserve(item):
            raise Unlike(item)


def movers(first, goal):
    """The first of the least sets of movers, as an ascending tuple."""
    need_bare_pair(first, goal)
    forced = [name for name in first.signals if first[name][0] != goal[name][0]]
    pairs = [(lower, upper) for lower, upper in pairs_turned(first, goal) if not (lower in forced or upper in forced)]
    others = [name for name in first.signals if name not in forced]
    for many in range(len(others) + 1):
        found = first_cover(pairs, others, many)
        if found is not None:
            break
    return tuple(sorted(forced + found))


def first_cover(pairs, names, many):
    """The first ascending list of at most so many of the names that has one of each pair, or None."""
    if not pairs:
        return []
    if many == 0:
        return None
    name = names[0]
    rest = names[1:]
    partners = [lower if upper == name else upper for lower, upper in pairs if name in (lower, upper)]
    if not partners:
        return first_cover(pairs, rest, many)
    found = first_cover([pair for pair in pairs if name not in pair], rest, many - 1)
    if found is not None:
        return [name] + found
    # Without this one each of its partners is needed.
    if len(partners) > many:
        return None
    left = [pair for pair in pairs if not (pair[0] in partners or pair[1] in partners)]
    found = first_cover(left, [other for other in rest if other not in partners], many - len(partners))
    return None if found is None else sorted(partners + found)


def wide_band(first, goal):
    """A band that is wide enough for a plan with at most two hops for each mover."""
    need_bare_pair(first, goal)
    widths = [max(first.width(name), goal.width(name)) for name in first.signals]
    return sum(widths) + max(widths, default=0)


def wide_plan(first, goal):
    """The moves with which all movers hop on top of the others, and those that lead on to the goal."""
    needed = wide_band(first, goal)
    if first.band < needed:
        raise TooNarrow(needed)
    names = movers(first, goal)
    layout = first
    row = names_by_place(first, first.signals)
    rise = []
    for name in names:
        moves = hop_moves(layout, [*row, twin_of(name)], name, goal[name][0])
        layout = after_moves(layout, moves)
        rise.extend(moves)
        row = [other for other in row if other != name] + [name]
    fall = []
    for at, name in enumerate(names):
        # The movers that are still to fall lie on top, in the order in which they have risen.
        high = list(names[at:])
        lower = names_by_place(goal, [other for other in first.signals if other == name or other not in high])
        low = [twin_of(name) if other == name else other for other in lower]
        moves = hop_moves(layout, low + high, name, goal[name][0])
        layout = after_moves(layout, moves)
        fall.extend(moves)
    fall.extend(list(slides(layout, goal)))
    return (tuple(rise), tuple(fall))


def names_by_place(layout, names):
    """The list of some signals by ascending places of their lights."""
    return [name for _, name in sorted([(layout[name][1], name) for name in names])]


def hop_moves(layout, row, name, route):
    """The list of the moves with which a light hops to a route.

    The row has the lights and the twin, the lower one first of each two that clash.
    """
    twin = twin_of(name)
    routes = {**routes_in(layout), twin: route}
    widths = {item: layout.width(item) for item in layout.spots}
    widths[twin] = width_of(layout.net, route, layout.rates[name])
    pairs = []
    for at, lower in enumerate(row):
        pairs.extend([(lower, upper) for upper in row[at + 1:] if common(routes[lower], routes[upper]) != ()])
    order = Order(widths, pairs)
    return settled_moves(layout, order) + [("light", name, route, order.low(twin)), ("out", name)]
