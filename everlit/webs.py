"""The fewest hops from a layout to a goal, found among the states of a web."""

from everlit.errors import TooMany
from everlit.goals import web_and_aim
from everlit.journeys import journey
from everlit.layouts import Layout
from everlit.slides import slides

HOPS = ("hop", "light")


class Search:
    """The layers of states around a first one, up to the first layer that meets an aim."""

    def __init__(self, web, aim, start, limit):
        self.rows = []
        self.end = None
        self._web = web
        self._limit = limit
        # How each state was reached: the state ahead and the step; None for the start.
        self._ways = {}
        fresh = [(start, None)]
        while fresh and self.end is None:
            row, fresh = self._layer(fresh)
            self.rows.append(tuple(sorted(row)))
            met = [state for state in self.rows[-1] if aim.is_met(state)]
            if met:
                self.end = met[0]

    def _layer(self, seeds):
        """The list of the states of the next layer, and of the ways on from it that need a hop."""
        row = []
        onward = []
        for state, way in seeds:
            self._reach(row, state, way)
        at = 0
        while at < len(row):
            state = row[at]
            found = list(self._web.steps(state))
            for step in found:
                if step[0] in HOPS:
                    onward.append((step[3], (state, step)))
                else:
                    self._reach(row, step[3], (state, step))
            at += 1
        return row, [(state, way) for state, way in onward if state not in self._ways]

    def _reach(self, row, state, way):
        """Puts a state into a row if it is new."""
        if state in self._ways:
            return
        self._ways[state] = way
        row.append(state)
        if len(self._ways) > self._limit:
            raise TooMany(self._limit)

    def path(self):
        """The list of the steps that lead from the start to the end."""
        found = []
        way = self._ways[self.end]
        while way is not None:
            before, step = way
            found.append(step)
            way = self._ways[before]
        return found[::-1]


def search_for(first, goal, routes, still, limit):
    """The web of a first layout and a goal, and the search for the goal in it."""
    web, aim = web_and_aim(first, goal, routes, still)
    return web, Search(web, aim, web.state_of(first), limit)


def hops_found(search):
    """The number of hops that a search has found to be the fewest, or None."""
    return None if search.end is None else len(search.rows) - 1


def fewest_hops(first, goal, *, routes=None, still=(), limit=200):
    """A plan with the fewest hops from a layout to a goal, or the states that plans never leave."""
    web, search = search_for(first, goal, routes, still, limit)
    if search.end is None:
        return ("never", tuple(sorted([state for row in search.rows for state in row])))
    moves, last = journey(web, first, search.path())
    if isinstance(goal, Layout):
        moves.extend(list(slides(last, goal)))
    return ("plan", hops_found(search), tuple(moves))


def layers(first, goal, *, routes=None, still=(), limit=200):
    """Yields the layers of states, each ascending, that lie ahead of the first that meets the goal."""
    _, search = search_for(first, goal, routes, still, limit)
    for row in search.rows if search.end is None else search.rows[:-1]:
        yield row


def sure_hops(first, goal, *, routes=None, still=(), limit=200):
    """The ascending tuple of the signals that hop in every plan with the fewest hops."""
    _, search = search_for(first, goal, routes, still, limit)
    hops = hops_found(search)
    if hops is None or hops == 0:
        return ()
    found = []
    for name in first.signals:
        if name not in still:
            _, other = search_for(first, goal, routes, (*still, name), limit)
            if hops_found(other) != hops:
                found.append(name)
    return tuple(found)
