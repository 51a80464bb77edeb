"""Promises [18] to [21]: the fewest hops to goals of all kinds, layers, and signals that hop surely."""

import itertools
import unittest

from everlit.errors import (
    InvalidBand, InvalidLayout, InvalidRoute, InvalidWish, NoDuct, NoItem, TooMany, Unlike)
from everlit.layouts import Layout
from everlit.nets import Net
from everlit.plans import hops_in, plan_fault, play, stages, tally
from everlit.routes import ducts_of, routes_between
from everlit.states import Web
from everlit.webcheck import shows_fewest, shows_never
from everlit.webs import fewest_hops, layers, sure_hops
from tests import oracle
from tests.samples import STRANGE, crowd, generator, line
from tests.test_chains import stack
from tests.test_states import some_webs, told_routes
from tests.test_turned import small

FUNCTIONS = (fewest_hops, lambda *told, **more: list(layers(*told, **more)), sure_hops)


class Tried:
    """All layouts that plain plans reach on told routes, each with its least number of hops.

    Every move is tried: slides one by one, lights of all signals at all places, out, quit and move.
    """

    def __init__(self, first, routes, still=(), fits=None):
        self.first = first
        self.net, self.band, self.rates = first.net, first.band, first.rates
        self.told = told_routes(first, routes)
        self.still = still
        self.fits = {} if fits is None else fits
        start = self.key(first.spots)
        self.hops = {start: 0}
        rows = [[start], []]
        while rows[0]:
            for key in rows[0]:
                hops = self.hops[key]
                for cost, after in self.tries(dict(key)):
                    after = self.key(after)
                    if self.hops.get(after, hops + cost + 1) > hops + cost and self.is_layout(after):
                        self.hops[after] = hops + cost
                        rows[cost].append(after)
            rows = [[key for key in rows[1] if self.hops[key] == hops + 1], []]

    def key(self, spots):
        return tuple(sorted(spots.items()))

    def is_layout(self, key):
        if key not in self.fits:
            self.fits[key] = oracle.fault(self.net, self.band, self.rates, dict(key)) is None
        return self.fits[key]

    def tries(self, spots):
        """The pairs of a number of hops and of the spots behind each move that can be tried."""
        for item, (route, place) in spots.items():
            for step in (1, -1):
                yield 0, {**spots, item: (route, place + step)}
        twins = [item for item in spots if item.endswith("+")]
        for twin in twins:
            left = {item: spot for item, spot in spots.items() if item != twin}
            yield 0, left
            yield 0, {**left, twin[:-1]: spots[twin]}
        for item in list(spots):
            if item.endswith("+"):
                continue
            for spot in itertools.product(self.told[item], range(self.band)):
                if item.endswith("*"):
                    yield 0, {**spots, item: spot}
                elif not twins and item not in self.still:
                    yield 1, {**spots, item + "+": spot}

    def single(self):
        """The reached spots without a twin, with their numbers of hops."""
        for key, hops in self.hops.items():
            if not any(item.endswith("+") for item, _ in key):
                yield dict(key), hops

    def least(self, goal):
        """The least number of hops to a goal, or None."""
        return min([hops for spots, hops in self.single() if self.meets(spots, goal)], default=None)

    def meets(self, spots, goal):
        if isinstance(goal, Layout):
            return spots == goal.spots
        word, aim = goal
        if word == "off":
            return not any(aim in ducts_of(self.net, route) for route, _ in spots.values())
        if word == "band":
            return oracle.fault(self.net, aim, self.rates, spots) is None
        item, route, rate = aim
        rates = self.rates if rate is None else {**self.rates, item: rate}
        return any(oracle.fault(self.net, self.band, rates, {**spots, item: (route, place)}) is None
                   for place in range(self.band))


def every_route(net):
    return [route for one, other in itertools.combinations(net.stations, 2)
            for route in routes_between(net, one, other)]


def some_goals(rng, first, tried):
    """Goals of all kinds, some of them reached and some not."""
    net = first.net
    yield Layout(net, first.band, first.rates, rng.choice(list(tried.single()))[0])
    yield ("band", rng.randint(1, first.band))
    yield ("off", rng.choice(net.ducts))
    yield ("room", (rng.choice(["new", "aa"]), rng.choice(every_route(net)), rng.randint(1, 2)))
    for name in first.signals:
        if name + "*" not in first:
            ends = oracle.ends_of(net, first[name][0])
            fits = [route for route in routes_between(net, *ends) if oracle.factor(net, route)]
            yield ("room", (name + "*", rng.choice(fits), None))


def far(net, route):
    return oracle.factor(net, route) is None


class PlanMixin:
    def plays(self, first, goal, answer, told):
        """Checks that the plan of an answer is what it says it is."""
        word, hops, moves = answer
        self.assertEqual((word, type(hops), type(moves)), ("plan", int, tuple))
        self.assertLessEqual(set(tally(moves)), {"slide", "light", "out", "quit", "move"})
        self.assertEqual(hops_in(moves), hops)
        for move in moves:
            if move[0] in ("light", "move"):
                item = move[1] + ("*" if move[0] == "move" else "")
                self.assertIn(move[2], told[item])
        last = play(first, *moves)
        self.assertEqual(len(list(stages(first, *moves))), len(moves) + 1)
        self.assertIs(last.doubled, None)
        if isinstance(goal, Layout):
            self.assertIs(plan_fault(first, goal, moves), None)
        return last


class FewestHopsTest(unittest.TestCase, PlanMixin):
    def test_a_layout_that_is_there(self):
        layout = small()
        self.assertEqual(fewest_hops(layout, layout), ("plan", 0, ()))
        slid = layout.placed({"a": 1, "b": 4, "b*": 0})
        answer = fewest_hops(first=layout, goal=slid)
        self.assertEqual(answer[1], 0)
        self.assertEqual(tally(answer[2]), {"slide": 7})
        self.plays(layout, slid, answer, told_routes(layout, {}))
        self.assertEqual(list(layers(layout, slid)), [])
        self.assertEqual(sure_hops(layout, slid), ())

    def test_one_hop_over_another_signal(self):
        layout = stack(1, 1, band=3)
        goal = Layout(layout.net, 3, layout.rates, {"a": ((0,), 2), "b": ((0,), 0)})
        answer = fewest_hops(layout, goal)
        self.assertEqual(answer[1], 1)
        self.plays(layout, goal, answer, told_routes(layout, {}))
        state = Web.of(layout).state_of(layout)
        self.assertEqual(list(layers(layout, goal)), [(state,)])
        self.assertEqual(sure_hops(layout, goal), ())
        self.assertEqual(sure_hops(layout, goal, still=("a",)), ("b",))
        self.assertEqual(fewest_hops(layout, goal, still=("a",))[1], 1)
        self.assertEqual(fewest_hops(layout, goal, still=("a", "b")), ("never", (state,)))
        self.assertEqual(sure_hops(layout, goal, still=("a", "b")), ())

    def test_no_room_to_hop(self):
        layout = stack(1, 1, band=2)
        goal = Layout(layout.net, 2, layout.rates, {"a": ((0,), 1), "b": ((0,), 0)})
        state = Web.of(layout).state_of(layout)
        self.assertEqual(fewest_hops(layout, goal), ("never", (state,)))
        self.assertEqual(list(layers(layout, goal)), [(state,)])
        self.assertEqual(sure_hops(layout, goal), ())
        # With another fibre one of them goes aside and comes back: two hops, or both aside by turns.
        answer = fewest_hops(layout, goal, routes={"a": ((1,),)})
        self.assertEqual(answer[1], 2)
        told = told_routes(layout, {"a": ((1,),)})
        self.plays(layout, goal, answer, told)
        self.assertEqual(sure_hops(layout, goal, routes={"a": ((1,),)}), ("a",))
        self.assertEqual(sure_hops(layout, goal, routes={"a": ((1,),), "b": ((2,),)}), ())
        self.assertEqual(fewest_hops(layout, goal, routes={"b": ((1,),)}, still=("b",))[0], "never")

    def test_a_reserve_moves_ahead_of_a_hop(self):
        # The light is to leave fibre 0 for fibre 1, where its own reserve would meet its calls.
        first = Layout(line(), 2, {"a": 1}, {"a": ((0,), 0), "a*": ((1,), 0)})
        goal = Layout(line(), 2, {"a": 1}, {"a": ((1,), 0), "a*": ((2,), 0)})
        answer = fewest_hops(first, goal)
        self.assertEqual(answer[1], 1)
        self.assertEqual(tally(answer[2]), {"light": 1, "move": 1, "out": 1})
        self.plays(first, goal, answer, told_routes(first, {"a": ((1,),), "a*": ((2,),)}))
        self.assertEqual(sure_hops(first, goal), ("a",))
        # Off the duct of the reserve by a move alone.
        answer = fewest_hops(first, ("off", "q"), routes={"a*": ((2,),)})
        self.assertEqual(answer, ("plan", 0, (("move", "a", (2,), 0),)))
        self.assertEqual(fewest_hops(first, ("off", "q"))[0], "never")

    def test_the_layer_zero_has_the_move_steps(self):
        first = Layout(line(), 3, {"a": 1}, {"a": ((0,), 0), "a*": ((1,), 0)})
        found = list(layers(first, ("off", "p"), routes={"a*": ((2,),)}))
        self.assertEqual(len(found[0]), 2)
        self.assertEqual([row for row in found], [tuple(sorted(row)) for row in found])
        answer = fewest_hops(first, ("off", "p"), routes={"a*": ((2,),)})
        self.assertEqual(answer, ("never", tuple(sorted(state for row in found for state in row))))

    def test_off_a_duct(self):
        first = stack(1, 1, band=2)
        self.assertEqual(fewest_hops(first, ("off", "q")), ("plan", 0, ()))
        routes = {"a": ((1,),), "b": ((1,), (2,))}
        answer = fewest_hops(first, ("off", "p"), routes=routes)
        self.assertEqual(answer[1], 2)
        last = self.plays(first, None, answer, told_routes(first, routes))
        self.assertNotIn(0, last["a"][0] + last["b"][0])
        self.assertEqual(sure_hops(first, ("off", "p"), routes=routes), ("a", "b"))
        self.assertEqual(fewest_hops(first, ("off", "p"), routes={"a": ((1,),)})[0], "never")
        self.assertEqual(fewest_hops(Layout(line(), 1, {}, {}), ("off", "p")), ("plan", 0, ()))

    def test_a_lesser_band(self):
        first = stack(2, 1, band=6)
        self.assertEqual(fewest_hops(first, ("band", 3)), ("plan", 0, ()))
        self.assertEqual(fewest_hops(first, ("band", 6)), ("plan", 0, ()))
        self.assertEqual(fewest_hops(first, ("band", 2))[0], "never")
        routes = {"b": ((1,),)}
        answer = fewest_hops(first, ("band", 2), routes=routes)
        self.assertEqual(answer[1], 1)
        last = self.plays(first, None, answer, told_routes(first, routes))
        self.assertEqual(last["b"][0], (1,))
        self.assertEqual(fewest_hops(first, ("band", 1), routes=routes)[0], "never")

    def test_room(self):
        # The signal b lies in the middle, on both fibres.
        net = Net(("a", "b", 1, "p"), ("b", "c", 1, "q"), ("a", "b", 1, "r"))
        rates = {"a": 2, "b": 1, "c": 2}
        first = Layout(net, 5, rates, {"a": ((0,), 0), "b": ((0, 1), 2), "c": ((1,), 3)})
        # A hop of a, or of c, over b leaves both of them beside one another.
        answer = fewest_hops(first, ("room", ("new", (0, 1), 2)))
        self.assertEqual(answer[1], 1)
        self.plays(first, None, answer, told_routes(first, {}))
        self.assertEqual(fewest_hops(first, ("room", ("new", (0, 1), 2)), still=("a", "c"))[0], "never")
        self.assertEqual(sure_hops(first, ("room", ("new", (0, 1), 2))), ())
        self.assertEqual(sure_hops(first, ("room", ("new", (0, 1), 2)), still=("a",)), ("c",))
        wider = first.in_band(6)
        self.assertEqual(fewest_hops(wider, ("room", ("new", (0, 1), 1)))[1], 0)
        self.assertEqual(fewest_hops(wider, ("room", ("new", (0, 1), 3)))[1], 1)
        self.assertEqual(fewest_hops(wider, ("room", ("new", (0, 1), 4)), routes={"a": ((2,),)})[0], "never")
        self.assertEqual(fewest_hops(wider, ("room", ("new", (0,), 16)))[0], "never")

    def test_room_that_is_just_wide_enough(self):
        # The signal b lies above a on fibre 0 and below c on fibre 1, so neither of them leaves more than two slots.
        net = Net(("a", "b", 1, "p"), ("b", "c", 1, "q"))
        first = Layout(net, 5, {"a": 2, "b": 1, "c": 2}, {"a": ((0,), 0), "b": ((0, 1), 2), "c": ((1,), 3)})
        for route in ((0,), (1,)):
            self.assertEqual(fewest_hops(first, ("room", ("new", route, 2))), ("plan", 0, ()))
            self.assertEqual(fewest_hops(first, ("room", ("new", route, 3)), still=("a", "b", "c"))[0], "never")

    def test_a_doubled_state_meets_no_goal(self):
        # With a twin in another duct no cut strikes a, and its reserve is in nobody's way; but not for good.
        first = Layout(line(), 2, {"a": 1}, {"a": ((0,), 0), "a*": ((1,), 0)})
        goal = ("room", ("new", (1,), 2))
        routes = {"a": ((2,),)}
        answer = fewest_hops(first, goal, routes=routes)
        self.assertEqual(answer[0], "never")
        self.assertIs(shows_never(first, goal, answer[1], routes=routes), True)
        self.assertTrue(any("a+" in dict(state[0]) for state in answer[1]))
        self.assertEqual(sure_hops(first, goal, routes=routes), ())

    def test_a_hop_that_is_quit(self):
        # While a is doubled its reserve clashes with nothing, and slides past b.
        first = Layout(line(), 2, {"a": 1, "b": 1}, {"a": ((0,), 0), "a*": ((1,), 0), "b": ((1,), 1)})
        goal = Layout(line(), 2, {"a": 1, "b": 1}, {"a": ((0,), 0), "a*": ((1,), 1), "b": ((1,), 0)})
        self.assertEqual(fewest_hops(first, goal, still=("b",))[0], "never")
        answer = fewest_hops(first, goal, routes={"a": ((2,),)}, still=("b",))
        self.assertEqual(answer[1], 1)
        self.assertEqual({word: many for word, many in tally(answer[2]).items() if word != "slide"},
                         {"light": 1, "quit": 1})
        self.plays(first, goal, answer, told_routes(first, {"a": ((2,),)}))
        self.assertEqual(sure_hops(first, goal, routes={"a": ((2,),)}, still=("b",)), ("a",))

    def test_a_hop_to_a_route_that_shares_a_fibre(self):
        net = Net(("a", "b", 1, "p"), ("b", "c", 1, "q"), ("b", "c", 1, "r"))
        for band in (1, 2, 3):
            first = Layout(net, band, {"a": 1}, {"a": ((0, 1), 0)})
            for goal in (first.with_item("a", (0, 2), 0), first.with_item("a", (0, 2), band - 1)):
                answer = fewest_hops(first, goal)
                self.assertEqual(answer[0], "never" if band == 1 else "plan")
                if band > 1:
                    self.assertEqual(answer[1], 1)
                    self.plays(first, goal, answer, told_routes(first, {"a": ((0, 2),)}))

    def test_room_for_a_reserve_whose_calls_bar_it_in_some_state(self):
        first = stack(1, band=2)
        wish = ("a*", (0,), None)
        answer = fewest_hops(first, ("room", wish), routes={"a": ((1,),)})
        self.assertEqual(answer[1], 1)
        self.assertEqual(self.plays(first, None, answer, told_routes(first, {"a": ((1,),)}))["a"][0], (1,))
        self.assertEqual(fewest_hops(first, ("room", wish))[0], "never")
        self.assertEqual(fewest_hops(first, ("room", ("a*", (1,), None)))[1], 0)
        # The light of another signal is in its way.
        two = Layout(line(), 2, {"a": 1, "b": 2}, {"a": ((0,), 0), "b": ((1,), 0)})
        self.assertEqual(fewest_hops(two, ("room", ("a*", (1,), None)))[0], "never")
        self.assertEqual(fewest_hops(two, ("room", ("a*", (1,), None)), routes={"b": ((2,),)})[1], 1)

    def test_one_to_five_items(self):
        for many in range(1, 6):
            first = stack(*[1] * many, band=many + 1)
            spots = {name: ((0,), many - 1 - at) for at, name in enumerate(first.signals)}
            goal = Layout(first.net, many + 1, first.rates, spots)
            answer = fewest_hops(first, goal, limit=500)
            self.assertEqual(answer[1], many - 1)
            self.plays(first, goal, answer, told_routes(first, {}))
            self.assertEqual(fewest_hops(first, ("band", many)), ("plan", 0, ()))
        with self.assertRaises(TooMany):
            fewest_hops(stack(1, 1, 1, 1, 1, 1), ("band", 6))

    def test_no_items(self):
        first = Layout(line(), 3, {}, {})
        self.assertEqual(fewest_hops(first, first), ("plan", 0, ()))
        self.assertEqual(fewest_hops(first, ("room", ("a", (0,), 3)), limit=1), ("plan", 0, ()))
        never = fewest_hops(first, ("room", ("a", (0,), 4)), limit=1)
        self.assertEqual(never, ("never", (((), ()),)))
        self.assertEqual(list(layers(first, ("room", ("a", (0,), 4)), limit=1)), [(((), ()),)])

    def test_routes_told_for_all_items_twice(self):
        first = Layout(line(), 3, {"a": 1, "b": 1}, {"a": ((0,), 0), "a*": ((1,), 0), "b": ((0,), 1)})
        routes = {"a": ((2,), (2,), (0,)), "a*": ((2,), (1,), (2,)), "b": ((1,), (1,), (1,))}
        answer = fewest_hops(first, ("off", "p"), routes=routes)
        self.assertEqual(answer[1], 2)
        self.plays(first, None, answer, told_routes(first, routes))
        self.assertEqual(routes["a"], ((2,), (2,), (0,)))
        self.assertEqual(fewest_hops(first, ("off", "p"), routes=routes), answer)
        self.assertEqual(sure_hops(first, ("off", "p"), routes=routes), ("a", "b"))

    def test_lists_belong_to_the_caller(self):
        first = stack(1, 1, band=3)
        one, other = layers(first, ("off", "p")), layers(first, ("off", "p"))
        self.assertEqual([next(one), next(other), next(one), next(other)],
                         [next(layers(first, ("off", "p")))] * 2 + [list(layers(first, ("off", "p")))[1]] * 2)


class LimitTest(unittest.TestCase):
    def limited(self, limit, *told, **more):
        for call in FUNCTIONS:
            with self.assertRaises(TooMany) as caught:
                call(*told, limit=limit, **more)
            self.assertEqual(caught.exception.limit, limit)

    def test_just_enough_and_one_less(self):
        first = stack(1, 1, 1, band=4)
        never = ("band", 2)
        states = fewest_hops(first, never)[1]
        self.assertEqual(len(states), 6)
        self.assertEqual(fewest_hops(first, never, limit=6)[1], states)
        self.assertEqual(len(list(layers(first, never, limit=6))), 3)
        self.limited(5, first, never)

    def test_the_layer_that_meets_the_goal_counts_as_a_whole(self):
        first = stack(1, 1, 1, band=4)
        goal = Layout(first.net, 4, first.rates, {"a": ((0,), 2), "b": ((0,), 0), "c": ((0,), 1)})
        rows = list(layers(first, goal))
        self.assertEqual([len(row) for row in rows], [1])
        # Layer 1 has four states: one of three signals hops to another place.
        self.assertEqual(fewest_hops(first, goal, limit=5)[1], 1)
        self.assertEqual(list(layers(first, goal, limit=5)), rows)
        self.limited(4, first, goal)
        # The layers behind it do not count.
        self.assertEqual(fewest_hops(first, first, limit=1), ("plan", 0, ()))

    def test_sure_hops_asks_with_each_signal_still(self):
        # With a still, the other ways to the goal are longer and pass more states.
        first = stack(1, 1, 1, band=4)
        goal = Layout(first.net, 4, first.rates, {"a": ((0,), 2), "b": ((0,), 0), "c": ((0,), 1)})
        self.assertEqual(sure_hops(first, goal, limit=6), ("a",))
        self.assertEqual(fewest_hops(first, goal, limit=5)[1], 1)
        self.assertEqual(fewest_hops(first, goal, still=("a",), limit=6)[1], 2)
        with self.assertRaises(TooMany) as caught:
            sure_hops(first, goal, limit=5)
        self.assertEqual(caught.exception.limit, 5)
        # Without a hop, and without a plan, nothing more is asked.
        self.assertEqual(sure_hops(first, first, limit=1), ())

    def test_one_and_five_hundred(self):
        first = stack(1, 1, 1, 1, 1, band=6)
        self.limited(1, first, ("band", 4))
        answer = fewest_hops(first, ("band", 4), limit=500)
        self.assertEqual(len(answer[1]), 120)
        routes = {name: ((1,), (2,)) for name in first.signals}
        self.limited(500, first, ("room", ("x", (0,), 7)), routes=routes)
        self.limited(200, first, ("room", ("x", (0,), 7)), routes=routes)
        with self.assertRaises(TooMany) as caught:
            fewest_hops(first, ("room", ("x", (0,), 7)), routes=routes)
        self.assertEqual(caught.exception.limit, 200)

    def test_all_limits_of_small_webs(self):
        rng = generator(210)
        for first, routes, still in some_webs(211, 25):
            goal = ("band", rng.randint(1, first.band))
            answer = fewest_hops(first, goal, routes=routes, still=still, limit=500)
            rows = list(layers(first, goal, routes=routes, still=still, limit=500))
            ahead = sum(len(row) for row in rows)
            if answer[0] == "never":
                self.assertEqual(len(answer[1]), ahead)
                if ahead > 1:
                    self.limited(ahead - 1, first, goal, routes=routes, still=still)
            elif ahead:
                self.limited(ahead, first, goal, routes=routes, still=still)


class TriedTest(unittest.TestCase, PlanMixin):
    def check(self, rng, first, routes, still):
        tried = Tried(first, routes, still)
        told = told_routes(first, routes)
        words = []
        for goal in some_goals(rng, first, tried):
            if not isinstance(goal, Layout) and goal[0] == "room" and far(first.net, goal[1][1]):
                continue
            more = {"routes": routes, "still": still, "limit": 500}
            least = tried.least(goal)
            if isinstance(goal, Layout):
                told = {item: set(told[item]) | {goal[item][0]} for item in told}
            answer = fewest_hops(first, goal, **more)
            rows = list(layers(first, goal, **more))
            if least is None:
                self.assertEqual(answer[0], "never")
                self.assertEqual(answer[1], tuple(sorted(state for row in rows for state in row)))
                self.assertIs(shows_never(first, goal, answer[1], routes=routes, still=still), True)
            else:
                self.assertEqual(answer[1], least)
                last = self.plays(first, goal, answer, told)
                self.assertIn(tried.key(last.spots), tried.hops)
                self.assertEqual(len(rows), least)
            if rows:
                self.assertIs(shows_fewest(first, goal, tuple(rows), routes=routes, still=still), True)
            self.check_layers(first, goal, tried, rows, routes)
            sure = sure_hops(first, goal, **more)
            for name in first.signals if least else ():
                other = Tried(first, routes, (*still, name), tried.fits).least(goal)
                self.assertIs(name in sure, other != least)
            if not least:
                self.assertEqual(sure, ())
            words.append((goal[0] if not isinstance(goal, Layout) else "layout", least))
        return words

    def check_layers(self, first, goal, tried, rows, routes):
        """Each layer has the states of the layouts that need so many hops, but no twin of a bare signal."""
        web = Web.of(first, goal, routes=routes)
        found = {}
        for key, hops in tried.hops.items():
            if any(item.endswith("+") and item[:-1] + "*" not in first for item, _ in key):
                continue
            state = web.state_of(Layout(first.net, first.band, first.rates, dict(key)))
            found[state] = min(hops, found.get(state, hops))
        for at, row in enumerate(rows):
            self.assertEqual(row, tuple(sorted(state for state in found if found[state] == at)))

    def test_against_all_moves_of_small_nets(self):
        rng = generator(200)
        words = {}
        for first, routes, still in some_webs(201, 36):
            for word in self.check(rng, first, routes, still):
                words[word] = words.get(word, 0) + 1
        for kind in ("layout", "band", "off", "room"):
            for least in (0, 1) if kind == "layout" else (None, 0, 1):
                self.assertGreater(words.get((kind, least), 0), 1, (kind, least))
        self.assertGreater(sum(words[word] for word in words if word[1] and word[1] > 1), 5)


class WrongTest(unittest.TestCase):
    def raised(self, error, value, *told, **more):
        calls = FUNCTIONS + (lambda *told, **more: shows_never(*told, (), **more),
                             lambda *told, **more: shows_fewest(*told, (), **more))
        for call in calls:
            with self.assertRaises(error) as caught:
                call(*told, **more)
            wrong = caught.exception
            fields = [field for field in ("word", "value", "name", "item", "limit") if hasattr(wrong, field)]
            told_value = getattr(wrong, fields[-1] if error is InvalidLayout else fields[0])
            self.assertEqual(told_value, value)
            self.assertIs(type(told_value), type(value))

    def test_the_errors_of_the_web_come_first(self):
        layout = small()
        twin = layout.with_item("a+", (2,), 0)
        bad = ("off", "zz")
        self.raised(InvalidLayout, "a+", twin, bad)
        self.raised(InvalidLayout, "a+", twin, twin.in_band(9))
        self.raised(InvalidLayout, "a+", layout, twin)
        self.raised(Unlike, None, layout, layout.in_band(9), routes={"zz": ()})
        self.raised(Unlike, "b*", layout, layout.without("b*"))
        self.raised(NoItem, "zz", layout, bad, routes={"zz": ()})
        self.raised(NoItem, "zz", layout, bad, still=("zz",))
        self.raised(InvalidRoute, (9,), layout, bad, routes={"a": ((9,),)})
        self.raised(TooMany, 5, stack(1, 1, 1, 1, 1, 1), bad)
        net = Net(*[("a", "b", 1, duct) for duct in "pqrst"])
        first = Layout(net, 4, {"a": 1}, {"a": ((0,), 0)})
        self.raised(TooMany, 3, first, bad, routes={"a": ((1,), (2,), (3,))})
        for value in STRANGE:
            if value != "a":
                self.raised(NoItem, value, layout, bad, still=(value,))
        self.raised(InvalidLayout, "one+", crowd(), bad)

    def test_wishes(self):
        layout = small()
        right = ("new", (0,), 1)
        fewest_hops(layout, ("room", right))
        wrong = [
            ("wish", ("a", (0,), 1)), ("wish", ("b*", (2,), None)), ("wish", ("a+", (2,), None)),
            ("wish", ("b+", (2,), None)), ("wish", ("new*", (2,), None)), ("wish", ("new+", (2,), None)),
            ("wish", list(right)), ("wish", right[:2]), ("wish", right + (1,)), ("wish", ("New", (0,), 1)),
            ("rate", ("new", (0,), 0)), ("rate", ("new", (0,), 17)), ("rate", ("new", (0,), True)),
            ("rate", ("new", (9,), None)), ("rate", ("a*", (1,), 1)), ("route", ("a*", (9,), None)),
            ("route", ("new", [0], 1)), ("route", ("new", (True,), 1)), ("route", ("new", (3,), 1)),
        ]
        for word, wish in wrong:
            self.raised(InvalidWish, word, layout, ("room", wish))
        for value in STRANGE:
            self.raised(InvalidWish, "wish", layout, ("room", value))
            self.raised(InvalidWish, "wish", layout, ("room", (value, (0,), 1)))
            if value is True or value != 1:
                self.raised(InvalidWish, "rate", layout, ("room", ("new", (0,), value)))
            if value != (1,):
                self.raised(InvalidWish, "route", layout, ("room", ("new", value, 1)))
        net = Net(("a", "b", 1, "p"), ("b", "c", 1, "q"), ("a", "b", 9, "r"), reach=[(8, 1)])
        first = Layout(net, 4, {"a": 1}, {"a": ((0,), 0)})
        self.raised(InvalidWish, "far", first, ("room", ("new", (2,), 1)))
        self.raised(InvalidWish, "far", first, ("room", ("a*", (2,), None)))
        self.raised(InvalidWish, "route", first, ("room", ("a*", (1,), None)))
        # What the calls bar now may be had later.
        fewest_hops(first, ("room", ("a*", (0,), None)))

    def test_bands_and_ducts(self):
        layout = small()
        for value in STRANGE + [9, 65, 0, -1, "8"]:
            if value is True or value != 1:
                self.raised(InvalidBand, value, layout, ("band", value))
        for value in STRANGE + ["s", "P", ("p",)]:
            self.raised(NoDuct, value, layout, ("off", value))
        for value in (8, 1):
            fewest_hops(layout, ("band", value))

    def test_what_is_no_goal(self):
        layout = small()
        for value in STRANGE + [("off",), ("band", 1, 1), ["band", 1], ("nothing", 1)]:
            with self.assertRaises(InvalidWish):
                fewest_hops(layout, value)

