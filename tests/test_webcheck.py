"""Promise [21]: the checks of closed tuples of states and of tuples of layers."""

import unittest

from everlit.layouts import Layout
from everlit.states import Web
from everlit.webcheck import shows_fewest, shows_never
from everlit.webs import fewest_hops, layers
from tests import oracle
from tests.samples import STRANGE, generator, line
from tests.test_chains import stack
from tests.test_states import Tried, some_webs
from tests.trying import kinds_spoiled


def tried_meets(found, state, goal):
    """Whether a state, told with all of its layouts, meets a goal."""
    first = found.first
    routes = dict(state[0])
    if any(item.endswith("+") for item in routes):
        return False
    if isinstance(goal, Layout):
        return goal.spots in found.layouts[state]
    word, aim = goal
    if word == "off":
        return not any(aim in oracle.ducts_of(first.net, route) for route in routes.values())
    if word == "band":
        return any(oracle.fault(first.net, aim, first.rates, spots) is None for spots in found.layouts[state])
    item, route, rate = aim
    rates = first.rates if rate is None else {**first.rates, item: rate}
    return any(
        oracle.fault(first.net, first.band, rates, {**spots, item: (route, place)}) is None
        for spots in found.layouts[state] for place in range(first.band))


def tried_never(found, start, goal, value):
    """What shows_never promises for a tuple of states, with steps found by trying all moves."""
    if start not in value or any(tried_meets(found, state, goal) for state in value):
        return False
    return all(step[3] in value for state in value for step in found.steps(state))


def tried_fewest(found, start, goal, value):
    """What shows_fewest promises for a tuple of tuples of states, for each of the tuples by itself."""
    if not value or start not in value[0]:
        return False
    if any(tried_meets(found, state, goal) for row in value for state in row):
        return False
    for at, row in enumerate(value):
        here = {state for ahead in value[:at + 1] for state in ahead}
        for state in row:
            for step in found.steps(state):
                if step[0] in ("out", "quit", "move"):
                    if step[3] not in here:
                        return False
                elif at < len(value) - 1 and step[3] not in here and step[3] not in value[at + 1]:
                    return False
    return True


def some_goal(rng, first):
    kind = rng.choice(["band", "off", "room"])
    if kind == "band":
        return ("band", rng.randint(1, first.band))
    if kind == "off":
        return ("off", rng.choice(first.net.ducts))
    return ("room", ("new", first["a"][0] if "a" in first else (0,), rng.randint(1, 3)))


def tried_webs(seed):
    """Layouts with their told routes and still signals, all layouts of their webs, and their first states."""
    for first, routes, still in some_webs(seed, 30):
        found = Tried(first, routes, still)
        if len(found.layouts) <= 40:
            start = Web.of(first, routes=routes, still=still).state_of(first)
            yield first, {"routes": routes, "still": still}, found, start


class NeverTest(unittest.TestCase):
    def test_what_fewest_hops_returns(self):
        first = stack(1, 1, 1, band=4)
        goal = ("band", 2)
        states = fewest_hops(first, goal)[1]
        self.assertIs(shows_never(first, goal, states), True)
        self.assertIs(shows_never(first, goal, states[::-1]), True)
        self.assertIs(shows_never(first, goal, states * 3 + states[:1]), True)
        self.assertIs(shows_never(first=first, goal=goal, value=states, routes={}, still=()), True)
        for at in range(len(states)):
            self.assertIs(shows_never(first, goal, states[:at] + states[at + 1:]), False)
        self.assertIs(shows_never(first, goal, list(states)), False)
        self.assertIs(shows_never(first, goal, ()), False)
        # For a goal that one of the states meets they show nothing.
        self.assertIs(shows_never(first, ("band", 3), states), False)
        self.assertIs(shows_never(first, first, states), False)
        # All signals still: the first state alone.
        state = Web.of(first).state_of(first)
        self.assertIs(shows_never(first, goal, (state,), still=("a", "b", "c")), True)
        self.assertIs(shows_never(first, goal, (state,), still=("a", "b")), False)
        other = [told for told in states if told != state][0]
        self.assertIs(shows_never(first, goal, (other,), still=("a", "b", "c")), False)
        self.assertIs(shows_never(first, goal, (state, other), still=("a", "b", "c")), True)

    def test_states_with_routes_that_are_not_told(self):
        first = stack(1, band=2)
        web = Web.of(first, routes={"a": ((1,),)})
        states = ((web.state_of(first)), (web.state_of(first.with_item("a", (1,), 0))))
        goal = ("band", 1)
        self.assertIs(shows_never(first, ("off", "p"), states), False)
        wide = stack(2, band=2)
        self.assertIs(shows_never(wide, goal, states, routes={"a": ((1,),)}), True)
        self.assertIs(shows_never(wide, goal, states), False)
        self.assertIs(shows_never(wide, goal, states[:1]), True)

    def test_any_value(self):
        first = stack(1, 1, band=3)
        goal = ("band", 1)
        states = fewest_hops(first, goal)[1]
        self.assertIs(shows_never(first, goal, states), True)
        for value in STRANGE:
            for told in (value, (value,), (*states, value), [value], {"a": value}):
                self.assertIs(shows_never(first, goal, told), False)
                self.assertIs(shows_fewest(first, goal, told), False)
                self.assertIs(shows_fewest(first, goal, (told,)), False)
                if value != ():
                    self.assertIs(shows_fewest(first, goal, (states, value)), False)
        for value in kinds_spoiled(states):
            told = isinstance(value, tuple) and len(value) == 3 and value[2] == value[1]
            self.assertIs(shows_never(first, goal, value), told)
        for value in kinds_spoiled((states,)):
            self.assertIs(shows_fewest(first, goal, value), self.is_unspoiled(value, states))

    def is_unspoiled(self, value, states):
        """Whether a spoiled value still has right states alone, the first one among them."""
        if not isinstance(value, tuple) or not value or not all(isinstance(row, tuple) for row in value):
            return False
        told = [set(map(repr, row)) for row in value]
        return all(repr(states[0]) in row and row <= set(map(repr, states)) for row in told)

    def test_a_turned_state_and_one_with_a_foreign_pair(self):
        first = stack(1, 1, band=3)
        goal = ("band", 1)
        rows, pairs = Web.of(first).state_of(first)
        turned = (rows, (("b", "a"),))
        self.assertIs(shows_never(first, goal, ((rows, pairs), turned)), True)
        for wrong in ((rows, ()), (rows, pairs + turned[1]), (rows[::-1], pairs), (rows, (("a", "c"),))):
            self.assertIs(shows_never(first, goal, ((rows, pairs), turned, wrong)), False)

    def test_against_all_moves(self):
        rng = generator(220)
        count = {True: 0, False: 0}
        for first, told, found, start in tried_webs(221):
            every = sorted(found.layouts)
            goal = some_goal(rng, first)
            closed = [start]
            for state in closed:
                closed += sorted({step[3] for step in found.steps(state)} - set(closed))
            tries = [tuple(every), tuple(closed), (start,)]
            tries += [tuple(state for state in closed if rng.random() < 0.9) for _ in range(4)]
            tries += [tuple(rng.sample(every, min(len(every), rng.randint(1, 8)))) for _ in range(4)]
            for value in tries:
                right = tried_never(found, start, goal, value)
                self.assertIs(shows_never(first, goal, value, **told), right)
                count[right] += 1
        self.assertGreater(min(count.values()), 20)


class FewestTest(unittest.TestCase):
    def test_what_layers_yields(self):
        first = stack(1, 1, 1, band=4)
        spots = {"a": ((0,), 2), "b": ((0,), 1), "c": ((0,), 0)}
        goal = Layout(first.net, 4, first.rates, spots)
        rows = tuple(layers(first, goal))
        self.assertEqual([len(row) for row in rows], [1, 4])
        self.assertIs(shows_fewest(first, goal, rows), True)
        self.assertIs(shows_fewest(first=first, goal=goal, value=rows, routes=None, still=()), True)
        self.assertIs(shows_fewest(first, goal, rows[:1]), True)
        self.assertIs(shows_fewest(first, goal, rows[1:]), False)
        self.assertIs(shows_fewest(first, goal, rows[::-1]), False)
        self.assertIs(shows_fewest(first, goal, ()), False)
        self.assertIs(shows_fewest(first, goal, ((),)), False)
        self.assertIs(shows_fewest(first, goal, list(rows)), False)
        # Three hops are not shown to be needed: a step from layer 1 leads to the goal, which is in no tuple.
        self.assertIs(shows_fewest(first, goal, rows + ((),)), False)
        self.assertIs(shows_fewest(first, goal, rows + (rows[0],)), False)
        # An empty tuple as the first one, or between, lets nothing lead on.
        self.assertIs(shows_fewest(first, goal, ((),) + rows), False)
        self.assertIs(shows_fewest(first, goal, (rows[0], (), rows[1])), False)
        # States that stand in several tuples, and tuples in which they stand several times.
        self.assertIs(shows_fewest(first, goal, (rows[0], rows[1] + rows[0])), True)
        self.assertIs(shows_fewest(first, goal, (rows[0] * 2, rows[1] * 3)), True)
        # Told too early, a state of the next layer leads on too far.
        self.assertIs(shows_fewest(first, goal, (rows[0] + rows[1][:1], rows[1])), False)
        for at in range(len(rows[1])):
            self.assertIs(shows_fewest(first, goal, (rows[0], rows[1][:at] + rows[1][at + 1:])), False)

    def test_more_than_one_hop_and_still_signals(self):
        first = stack(1, 1, band=3)
        goal = ("off", "p")
        routes = {"a": ((1,),)}
        rows = tuple(layers(first, goal, routes=routes))
        self.assertIs(shows_fewest(first, goal, rows, routes=routes), True)
        # If no plan leads there, any number of empty tuples may follow.
        self.assertIs(shows_fewest(first, goal, rows + ((), (), ()), routes=routes), True)
        self.assertIs(shows_fewest(first, goal, rows), False)
        self.assertIs(shows_fewest(first, goal, rows[:1] + ((),), still=("a", "b")), True)
        self.assertIs(shows_fewest(first, goal, rows[:1] + ((),), still=("a",)), False)

    def test_free_steps_stay(self):
        first = Layout(line(), 2, {"a": 1}, {"a": ((0,), 0), "a*": ((1,), 0)})
        routes = {"a": ((2,),), "a*": ((2,),)}
        goal = ("off", "p")
        rows = tuple(layers(first, goal, routes=routes))
        self.assertEqual(len(rows), 1)
        self.assertIs(shows_fewest(first, goal, rows, routes=routes), True)
        self.assertEqual(fewest_hops(first, goal, routes=routes)[1], 1)
        # The move of the reserve is no hop, so it must not lead out, not even from the last tuple.
        for state in rows[0]:
            left = tuple(told for told in rows[0] if told != state)
            self.assertIs(shows_fewest(first, goal, (left,), routes=routes), False)
        # A state behind a light step needs no hop to be left by out, which meets the goal.
        web = Web.of(first, routes=routes)
        behind = tuple(sorted({step[3] for state in rows[0] for step in web.steps(state) if step[0] == "light"}))
        self.assertIs(shows_fewest(first, goal, (rows[0], behind), routes=routes), False)

    def test_a_state_that_meets_the_goal(self):
        first = stack(1, 1, band=3)
        state = Web.of(first).state_of(first)
        self.assertIs(shows_fewest(first, first, ((state,),)), False)
        self.assertIs(shows_fewest(first, ("band", 1), ((state,),)), True)
        self.assertIs(shows_fewest(first, ("band", 2), ((state,),)), False)

    def test_against_all_moves(self):
        rng = generator(222)
        count = {True: 0, False: 0}
        for first, told, found, start in tried_webs(223):
            every = sorted(found.layouts)
            goal = some_goal(rng, first)
            rows = list(layers(first, goal, limit=500, **told))
            tries = [tuple(rows), (tuple(every),), ((start,), tuple(every)), ((start,),)]
            for _ in range(6):
                tries.append(tuple(self.shaken(rng, row, every) for row in rows))
                tries.append(tuple(self.shaken(rng, row, every) for row in rows) + (tuple(every),))
            for value in tries:
                right = tried_fewest(found, start, goal, value)
                self.assertIs(shows_fewest(first, goal, value, **told), right)
                count[right] += 1
        self.assertGreater(min(count.values()), 40)

    def shaken(self, rng, row, every):
        """A row with some states left out or added."""
        left = [state for state in row if rng.random() < 0.95]
        return tuple(left + ([rng.choice(every)] if rng.random() < 0.3 else []))
