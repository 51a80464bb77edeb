"""Webs: the states that slides do not change, and the steps between them."""

from everlit.clashes import marks_among, marks_clash, pairs_clashing, rivals_among
from everlit.errors import InvalidLayout, InvalidRoute, NoItem, TooMany, Unlike
from everlit.kinds import is_light, is_reserve, is_twin, reserve_of, signal_of, twin_of
from everlit.layouts import Layout, meets_own_call
from everlit.orders import Order, order_of
from everlit.routes import ends_of, factor_for, is_route, length_along, width_of
from everlit.splices import pairs_around, pairs_renamed, pairs_without, parts_of, ways_in

MOST_ITEMS = 5
MOST_ROUTES = 3


def need_single(layouts):
    """Raises InvalidLayout with the first twin of some layouts."""
    for layout in layouts:
        if layout.doubled is not None:
            raise InvalidLayout("twin", twin_of(layout.doubled))


def need_same_items(first, goal):
    """Raises Unlike if two layouts differ in more than routes and places, or in ends of routes."""
    if first.net != goal.net or first.band != goal.band or first.rates != goal.rates:
        raise Unlike(None)
    for item in sorted(list(first.spots) + list(goal.spots)):
        if item not in first or item not in goal:
            raise Unlike(item)
        if ends_of(first.net, first[item][0]) != ends_of(first.net, goal[item][0]):
            raise Unlike(item)


def need_known(first, routes, still):
    """Raises NoItem with the first key of a dict that is no item, or the first entry that is no signal."""
    for item in sorted(routes):
        if item not in first:
            raise NoItem(item)
    for name in still:
        if not is_light(name) or name not in first:
            raise NoItem(name)


def need_routes(first, routes):
    """Raises InvalidRoute with the first told route that no item of its signal can have."""
    net = first.net
    for item in sorted(routes):
        ends = ends_of(net, first[signal_of(item)][0])
        for route in routes[item]:
            if not is_route(net, route) or ends_of(net, route) != ends:
                raise InvalidRoute(route)
            if factor_for(net, length_along(net, route)) is None:
                raise InvalidRoute(route)


def told_routes(layouts, routes):
    """The dict from the items of layouts to their routes there and those that a dict tells."""
    found = {}
    for item in layouts[0].spots:
        told = [layout[item][0] for layout in layouts] + list(routes.get(item, ()))
        found[item] = tuple(sorted(set(told)))
    return found


def are_rows(value):
    """Whether any value is a tuple of pairs that begin with strings."""
    if not isinstance(value, tuple):
        return False
    return all([isinstance(row, tuple) and len(row) == 2 and isinstance(row[0], str) for row in value])


def are_pairs(value):
    """Whether any value is an ascending tuple of pairs of strings."""
    if not are_rows(value) or not all([isinstance(upper, str) for _, upper in value]):
        return False
    return all([one < other for one, other in zip(value, value[1:])])


def state_from(routes, pairs):
    """The state with these routes of its items and these pairs."""
    return (tuple(sorted([(item, routes[item]) for item in routes])), tuple(sorted(pairs)))


class Web:
    """The states of some items on told routes, and the steps between them. A web never changes."""

    def __init__(self, net, band, rates, routes, *, still=()):
        self._net = net
        self._band = band
        self._rates = {name: rates[name] for name in sorted(rates)}
        self._told = {item: tuple(routes[item]) for item in sorted(routes)}
        self._still = tuple(still)

    @classmethod
    def of(cls, first, goal=None, *, routes=None, still=()):
        """The web with the routes of one or two layouts and of a dict."""
        layouts = [first, goal] if isinstance(goal, Layout) else [first]
        more = {} if routes is None else routes
        need_single(layouts)
        need_same_items(first, layouts[-1])
        need_known(first, more, still)
        need_routes(first, more)
        if len(first) > MOST_ITEMS:
            raise TooMany(MOST_ITEMS)
        told = told_routes(layouts, more)
        if any([len(told[item]) > MOST_ROUTES for item in told]):
            raise TooMany(MOST_ROUTES)
        return cls(first.net, first.band, first.rates, told, still=still)

    def state_of(self, layout):
        """The state of a layout."""
        rows = [(item, layout[item][0]) for item in layout.spots]
        return (tuple(rows), order_of(layout).pairs)

    def layout_at(self, state):
        """The layout of a state with all items at their lows."""
        order = self.order_at(state)
        spots = {item: (route, order.low(item)) for item, route in state[0]}
        return Layout(self._net, self._band, self._rates, spots)

    def order_at(self, state):
        """The order of a state."""
        widths = {item: self._width(item, route) for item, route in state[0]}
        return Order(widths, state[1])

    def _width(self, item, route):
        """The width of an item on a route."""
        return width_of(self._net, route, self._rates[signal_of(item)])

    def steps(self, state):
        """Yields the tuples (word, item, route, state) of the steps from a state, in ascending order."""
        routes = {item: route for item, route in state[0]}
        order = self.order_at(state)
        found = {}
        for word, item, route in self._choices(routes):
            for behind in self._states_behind(order, routes, word, item, route):
                if behind != state:
                    found[(word, item, route, behind)] = True
        for step in sorted(found):
            yield step

    def _choices(self, routes):
        """The list of what can be tried: a word, an item and the route that it gets."""
        found = []
        twins = [item for item in routes if is_twin(item)]
        for twin in twins:
            found.extend([("out", signal_of(twin), ()), ("quit", signal_of(twin), ())])
        for item in routes:
            if is_light(item) and not twins and item not in self._still:
                word = "light" if reserve_of(item) in routes else "hop"
                found.extend([(word, item, route) for route in self._told[item]])
            if is_reserve(item):
                found.extend([("move", item, route) for route in self._told[item]])
        return found

    def _states_behind(self, order, routes, word, item, route):
        """The list of the states that steps of a word lead to, perhaps one several times."""
        if word in ("out", "quit"):
            return self._states_without_twin(order, routes, word, item)
        # Light and twin are lit together for a while, and both places of a reserve are kept so long.
        new = item if word == "move" else twin_of(item)
        during = {**routes, new: route}
        rivals = [other for other in rivals_among(self._net, during, new) if other in routes]
        last = new if word == "light" else item
        behind = {**routes, last: route}
        if word == "move" and meets_own_call(self._net, behind, item):
            return []
        kept = pairs_without(order.pairs, last)
        if word == "light":
            marks = marks_among(self._net, behind)
            kept = [(lower, upper) for lower, upper in kept if marks_clash(marks[lower], marks[upper])]
        found = []
        for below in ways_in(order, self._band, self._width(item, route), rivals):
            around = pairs_around(last, [other for other in rivals if other != last], below)
            found.append(state_from(behind, kept + around))
        return found

    def _states_without_twin(self, order, routes, word, name):
        """The list of the states that an out or quit step leads to."""
        twin = twin_of(name)
        reserve = reserve_of(name)
        behind = {item: routes[item] for item in routes if item != twin}
        kept = pairs_without(order.pairs, twin)
        if word == "out":
            behind[name] = routes[twin]
            kept = pairs_renamed(pairs_without(order.pairs, name), twin, name)
        if meets_own_call(self._net, behind, reserve):
            return []
        # The calls of the signal have grown, so its reserve may clash with more items.
        ahead = [other for other in behind if (other, reserve) in order or (reserve, other) in order]
        rivals = [other for other in rivals_among(self._net, behind, reserve) if other not in ahead]
        width = self._width(reserve, routes[reserve])
        found = []
        for below in parts_of(rivals):
            above = [other for other in rivals if other not in below]
            if order.with_item(reserve, width, below=below, above=above).fits(self._band):
                found.append(state_from(behind, kept + pairs_around(reserve, rivals, below)))
        return found

    def _has_items(self, items):
        """Whether a list of strings has the items of the web, ascending, with or without one twin."""
        twins = [item for item in items if item not in self._told]
        if len(twins) > 1 or items != sorted(list(self._told) + twins):
            return False
        return all([is_twin(twin) and reserve_of(signal_of(twin)) in self._told for twin in twins])

    def _is_told(self, item, value):
        """Whether any value is a told route of an item."""
        lit = signal_of(item) if is_twin(item) else item
        return is_route(self._net, value) and value in self._told[lit]

    def __contains__(self, state):
        if not isinstance(state, tuple) or len(state) != 2:
            return False
        rows, pairs = state
        if not are_rows(rows) or not are_pairs(pairs):
            return False
        if not self._has_items([item for item, _ in rows]):
            return False
        if not all([self._is_told(item, route) for item, route in rows]):
            return False
        routes = {item: route for item, route in rows}
        reserves = [item for item in routes if is_reserve(item)]
        if any([meets_own_call(self._net, routes, item) for item in reserves]):
            return False
        if sorted([(min(pair), max(pair)) for pair in pairs]) != pairs_clashing(self._net, routes):
            return False
        return self.order_at(state).fits(self._band)
