"""Goals of plans: what is wrong about one, and which states meet it."""

from everlit.clashes import rivals_among, routes_in
from everlit.cuts import need_duct
from everlit.errors import InvalidBand, InvalidWish
from everlit.kinds import is_reserve, is_twin, signal_of
from everlit.layouts import Layout, meets_own_call
from everlit.limits import is_integer
from everlit.routes import ducts_of, width_of
from everlit.states import Web
from everlit.wishes import is_wish, wish_word

WORDS = ("room", "band", "off")


def need_goal(first, goal):
    """Raises an error if a goal is wrong for a first layout."""
    if isinstance(goal, Layout):
        return
    if not isinstance(goal, tuple) or len(goal) != 2 or goal[0] not in WORDS:
        raise InvalidWish("wish")
    word, aim = goal
    if word == "room":
        need_room_wish(first, aim)
    if word == "band" and not (is_integer(aim) and 1 <= aim <= first.band):
        raise InvalidBand(aim)
    if word == "off":
        need_duct(first.net, aim)


def need_room_wish(first, wish):
    """Raises InvalidWish if any value is no wish for a new light or for a signal without a reserve."""
    routes = routes_in(first)
    if not is_wish(first.rates, routes, wish) or is_twin(wish[0]) or wish[0] in first:
        raise InvalidWish("wish")
    word = wish_word(first.net, first.rates, routes, wish)
    # The calls may be others in the state that meets the goal.
    if word is not None and word != "calls":
        raise InvalidWish(word)


def web_and_aim(first, goal, routes, still):
    """The web of a first layout and a goal, and the aim that tells which of its states meet the goal."""
    web = Web.of(first, goal, routes=routes, still=still)
    need_goal(first, goal)
    return web, Aim(web, first, goal)


class Aim:
    """A right goal, as far as the states of a web can meet it. An aim never changes."""

    def __init__(self, web, first, goal):
        self._web = web
        self._net = first.net
        self._band = first.band
        self._rates = first.rates
        if isinstance(goal, Layout):
            self._word = "state"
            self._worth = web.state_of(goal)
        else:
            self._word, self._worth = goal

    def is_met(self, state):
        """Whether a state of the web meets the goal."""
        routes = {item: route for item, route in state[0]}
        if any([is_twin(item) for item in routes]):
            return False
        if self._word == "state":
            return state == self._worth
        if self._word == "band":
            return self._web.order_at(state).fits(self._worth)
        if self._word == "off":
            return not any([self._worth in ducts_of(self._net, routes[item]) for item in routes])
        return self._has_room(self._web.order_at(state), routes)

    def _has_room(self, order, routes):
        """Whether the wished item has some place that nothing bars, and a reserve meets no call."""
        item, route, rate = self._worth
        during = {**routes, item: route}
        if is_reserve(item) and meets_own_call(self._net, during, item):
            return False
        width = width_of(self._net, route, self._rates[signal_of(item)] if rate is None else rate)
        rivals = rivals_among(self._net, during, item)
        tops = [(order.low(other) + order.widths[other], order.high(other, self._band)) for other in rivals]
        for place in range(self._band - width + 1):
            if all([top <= place or high >= place + width for top, high in tops]):
                return True
        return False
