"""Promises [19] and [20]: states, told routes and the steps between states."""

import itertools
import unittest

from everlit.chains import lows
from everlit.errors import InvalidLayout, InvalidRoute, NoItem, TooMany, Unlike
from everlit.layouts import Layout
from everlit.nets import Net
from everlit.orders import order_of
from everlit.routes import routes_between
from everlit.states import Web
from tests import oracle
from tests.samples import STRANGE, crowd, generator, line
from tests.test_chains import stack
from tests.test_layout_methods import random_layout
from tests.test_turned import small
from tests.trying import kinds_spoiled


def told_routes(layout, routes):
    """The told routes of each item: its own and those of a dict."""
    return {item: sorted({layout[item][0], *routes.get(item, ())}) for item in layout.spots}


class Tried:
    """All layouts of a web, each told by its routes and places, sorted by their states."""

    def __init__(self, first, routes, still=()):
        self.first = first
        self.told = told_routes(first, routes)
        self.still = still
        self.layouts = {}
        items = sorted(first.spots)
        twins = [name + "+" for name in first.signals if name + "*" in first]
        for extra in [[]] + [[twin] for twin in twins]:
            self.collect(items + extra)

    def told_for(self, item):
        return self.told[item.rstrip("+")]

    def width(self, item, route):
        return self.first.rates[oracle.name_of(item)] * oracle.factor(self.first.net, route)

    def collect(self, items):
        net, band = self.first.net, self.first.band
        for routes in itertools.product(*[self.told_for(item) for item in items]):
            spots = {item: (route, 0) for item, route in zip(items, routes)}
            reserves = [item for item in items if not oracle.lit(item)]
            if any(oracle.calls(net, spots, item[:-1]) & set(oracle.ducts_of(net, spots[item][0]))
                   for item in reserves):
                continue
            width = [self.width(item, route) for item, route in zip(items, routes)]
            clashes = [(at, to) for at, to in itertools.combinations(range(len(items)), 2)
                       if oracle.clash(net, spots, items[at], items[to])]
            for places in itertools.product(*[range(band - wide + 1) for wide in width]):
                if any(places[at] < places[to] + width[to] and places[to] < places[at] + width[at]
                       for at, to in clashes):
                    continue
                pairs = sorted((items[at], items[to]) if places[at] < places[to] else (items[to], items[at])
                               for at, to in clashes)
                state = (tuple(sorted(zip(items, routes))), tuple(pairs))
                told = {item: (route, place) for item, route, place in zip(items, routes, places)}
                self.layouts.setdefault(state, []).append(told)
        self.known = {tuple(sorted(told.items())): state for state, rows in self.layouts.items() for told in rows}

    def state(self, spots):
        """The state of spots if they are a layout of the web, or None."""
        return self.known.get(tuple(sorted(spots.items())))

    def steps(self, state):
        """The steps from a state: each move tried on each of its layouts."""
        found = set()
        for spots in self.layouts[state]:
            for word, item, route, after in self.tries(spots):
                behind = self.state(after)
                if behind is not None and behind != state:
                    found.add((word, item, route, behind))
        return sorted(found)

    def tries(self, spots):
        """The word, the item, the route and the spots behind of all that can be tried, be it a layout or not."""
        twins = [item for item in spots if item.endswith("+")]
        for twin in twins:
            name = twin[:-1]
            left = {item: spot for item, spot in spots.items() if item != twin}
            yield ("quit", name, (), left)
            yield ("out", name, (), {**left, name: spots[twin]})
        for item in spots:
            places = range(self.first.band)
            if item.endswith("*"):
                for spot in itertools.product(self.told[item], places):
                    yield ("move", item, spot[0], {**spots, item: spot})
            elif not twins and item not in self.still:
                for spot in itertools.product(self.told[item], places):
                    doubled = {**spots, item + "+": spot}
                    if item + "*" in spots:
                        yield ("light", item, spot[0], doubled)
                    elif self.is_layout(doubled):
                        yield ("hop", item, spot[0], {**spots, item: spot})

    def is_layout(self, spots):
        return oracle.fault(self.first.net, self.first.band, self.first.rates, spots) is None


def dense_layout(rng, band, most):
    """Signals with and without reserves that meet one another on few fibres between two stations."""
    net = Net(*[("a", "b", rng.randint(1, 5), rng.choice("pqrs")) for _ in range(rng.randint(2, 4))],
              reach=rng.choice([(), (), ((4, 1), (5, 2))]))
    layout = Layout(net, band, {}, {})
    for _ in range(12):
        item = rng.choice(["a", "a*", "b", "b*", "c", "c*"])
        if item in layout:
            continue
        rates = {**layout.rates, item[0]: layout.rates.get(item[0], rng.choice([1, 1, 2]))}
        spots = {**layout.spots, item: ((rng.randrange(len(net)),), rng.randrange(band))}
        if len(layout) < most and oracle.fault(net, band, rates, spots) is None:
            layout = Layout(net, band, rates, spots)
    return layout


def some_webs(seed, many, most=3):
    """Small layouts without twins, told routes of their items, and signals that are still."""
    rng = generator(seed)
    count = 0
    while count < many:
        band = rng.randint(2, 3 if most > 3 else 4)
        layout = random_layout(rng, band) if rng.random() < 0.1 else dense_layout(rng, band, most)
        if layout.doubled or not 2 <= len(layout) <= most:
            continue
        routes = {}
        for item in layout.spots:
            ends = oracle.ends_of(layout.net, layout[item][0])
            fits = [route for route in routes_between(layout.net, *ends) if oracle.factor(layout.net, route)]
            told = rng.sample(fits, min(len(fits), rng.choice([1, 1, 2])))
            routes[item] = tuple(told)
        if any(len(told) > 3 for told in told_routes(layout, routes).values()):
            continue
        still = tuple(name for name in layout.signals if rng.random() < 0.15)
        count += 1
        yield layout, routes, still


class StateTest(unittest.TestCase):
    def test_a_state(self):
        layout = small()
        web = Web.of(layout)
        state = web.state_of(layout)
        self.assertEqual(state, ((("a", (0,)), ("b", (0,)), ("b*", (1,))), (("a", "b"),)))
        self.assertIs(state in web, True)
        self.assertEqual(web.order_at(state), order_of(layout))
        self.assertEqual(web.layout_at(state), layout.placed({"b*": 0}))
        self.assertEqual(web.state_of(layout=layout.placed({"b": 6})), state)
        for there in (web.order_at(state=state), web.layout_at(state=state)):
            self.assertTrue(len(there))
        empty = Web.of(Layout(line(), 1, {}, {}))
        self.assertEqual(empty.state_of(Layout(line(), 1, {}, {})), ((), ()))
        self.assertIs(((), ()) in empty, True)
        self.assertEqual(list(empty.steps(((), ()))), [])
        self.assertEqual(empty.layout_at(((), ())), Layout(line(), 1, {}, {}))

    def test_the_class_itself(self):
        layout = small()
        web = Web(line(), 8, {"a": 1, "b": 2}, {"a": ((0,),), "b": ((0,),), "b*": ((1,), (2,))}, still=("b",))
        same = Web.of(layout, routes={"b*": ((2,),)}, still=("b",))
        state = web.state_of(layout)
        self.assertEqual(list(web.steps(state)), list(same.steps(state)))
        self.assertIs(state in web, True)

    def test_a_state_with_a_twin(self):
        layout = small()
        web = Web.of(layout, routes={"b": ((2,),), "a": ((1,),)})
        doubled = layout.with_item("b+", (2,), 0)
        state = web.state_of(doubled)
        self.assertIs(state in web, True)
        self.assertEqual(web.layout_at(state), doubled.placed({"b*": 0}))
        # A signal without a reserve is never doubled.
        self.assertIs(web.state_of(layout.with_item("a+", (1,), 0)) in web, False)

    def test_states_that_are_not_in_the_web(self):
        layout = small()
        web = Web.of(layout, routes={"a": ((2,),)})
        rows = (("a", (0,)), ("b", (0,)), ("b*", (1,)))
        pairs = (("a", "b"),)
        self.assertIs((rows, pairs) in web, True)
        self.assertIs((rows, (("b", "a"),)) in web, True)
        self.assertIs(((("a", (2,)),) + rows[1:], ()) in web, True)
        wrong = [
            (rows, ()), (rows, pairs * 2), (rows, (("b", "a"), ("a", "b"))), (rows, (("a", "b"), ("b", "a"))),
            (rows[:2], pairs), (rows[::-1], pairs), (rows, (("a", "b*"),)), (rows, (("a", "b"), ("a", "b*"))),
            (rows + rows[:1], pairs), ((("a", (1,)),) + rows[1:], ()), ((("a", (2,)),) + rows[1:], pairs),
            ((("a", (True,)),) + rows[1:], pairs), ((("a", (False,)),) + rows[1:], pairs), (rows, pairs, ()),
            ((("a", [0]),) + rows[1:], pairs), [rows, pairs], (list(rows), pairs), (rows, list(pairs)),
            (rows + (("c", (0,)),), pairs), (rows[:2] + (("b+", (0,)), ("b*", (1,))), pairs), (rows, (("a", "c"),)),
            (rows, (["a", "b"],)), (rows, (("a", "b", "b"),)), (rows, (("a", None),)), ((rows, pairs),), (rows,),
            ((("a", (0,), 0),) + rows[1:], pairs), (rows, (("a", "a"),)), ((rows[0], rows[0], *rows[1:]), pairs),
        ]
        for value in wrong + STRANGE:
            self.assertIs(value in web, False)
        for value in kinds_spoiled((rows, pairs)):
            self.assertIs(value in web, False)
        for value in STRANGE:
            for told in ((value, pairs), (rows, value), (rows, (value,)), ((value,), pairs),
                         ((("a", value),) + rows[1:], pairs), (((value, (0,)),) + rows[1:], pairs),
                         (rows, ((value, "b"),)), (rows, (("a", value),))):
                self.assertIs(told in web, told == (rows, pairs))

    def test_items_that_are_not_in_the_web(self):
        net = Net(*[("a", "b", 1, duct) for duct in "pqrstu"])
        spots = {"a": ((0,), 0), "a*": ((1,), 0), "b": ((2,), 0), "b*": ((3,), 0), "c": ((4,), 0)}
        layout = Layout(net, 2, {"a": 1, "b": 1, "c": 1}, spots)
        web = Web.of(layout, routes={name: ((5,),) for name in "abc"})
        rows = web.state_of(layout)[0]
        for more, told in (((), True), (("a+",), True), (("b+",), True), (("c+",), False), (("a+", "b+"), False),
                           (("a?",), False), (("a**",), False), (("d",), False), (("A+",), False), (("+",), False)):
            state = (tuple(sorted(rows + tuple((item, (5,)) for item in more))), ())
            self.assertIs(state in web, told)
        pairs = (("b", "b+"),)
        twin = ("b+", (2,))
        self.assertIs((tuple(sorted(rows + (twin,))), pairs) in web, True)
        self.assertIs((tuple(sorted(rows + (twin, ("a+", (5,))))), pairs) in web, False)

    def test_orders_that_do_not_fit(self):
        layout = stack(1, 1, 1, band=3)
        web = Web.of(layout)
        rows = web.state_of(layout)[0]
        self.assertIs((rows, (("a", "b"), ("b", "c"), ("c", "a"))) in web, False)
        self.assertIs((rows, (("a", "b"), ("a", "c"), ("c", "b"))) in web, True)
        wide = Web.of(stack(1, 2, band=3).with_item("b", (1,), 0), routes={"b": ((0,),)})
        rows = (("a", (0,)), ("b", (0,)))
        self.assertIs((rows, (("a", "b"),)) in wide, True)
        narrow = Web(line(), 2, {"a": 1, "b": 2}, {"a": ((0,),), "b": ((0,), (1,))})
        self.assertIs((rows, (("a", "b"),)) in narrow, False)

    def test_a_reserve_that_meets_a_call(self):
        layout = Layout(line(), 3, {"a": 1}, {"a": ((0,), 0), "a*": ((1,), 0)})
        web = Web.of(layout, routes={"a": ((1,),), "a*": ((0,),)})
        for light, reserve in itertools.product(((0,), (1,)), repeat=2):
            self.assertIs(((("a", light), ("a*", reserve)), ()) in web, light != reserve)
        # A twin on another duct ends all calls.
        self.assertIs(((("a", (0,)), ("a*", (0,)), ("a+", (1,))), ()) in web, True)
        self.assertIs(((("a", (0,)), ("a*", (0,)), ("a+", (0,))), (("a", "a+"),)) in web, False)

    def test_all_states_of_small_webs(self):
        rng = generator(120)
        count = 0
        for first, routes, still in some_webs(121, 40):
            web = Web.of(first, routes=routes, still=still)
            found = Tried(first, routes)
            for state, rows in found.layouts.items():
                self.assertIs(state in web, True)
                spots = rng.choice(rows)
                layout = Layout(first.net, first.band, first.rates, spots)
                self.assertEqual(web.state_of(layout), state)
                self.assertEqual(web.order_at(state), order_of(layout))
                self.assertEqual(web.layout_at(state), layout.placed(lows(layout)))
                count += 1
                for _ in range(4):
                    pairs = tuple(sorted(pair[::rng.choice((1, -1))] for pair in state[1]))
                    self.assertIs((state[0], pairs) in web, (state[0], pairs) in found.layouts)
                    if pairs:
                        self.assertIs((state[0], pairs[1:]) in web, False)
        self.assertGreater(count, 300)


class StepsTest(unittest.TestCase):
    def test_a_hop_over(self):
        layout = stack(1, 1, band=3)
        web = Web.of(layout)
        state = web.state_of(layout)
        turned = (state[0], (("b", "a"),))
        self.assertEqual(list(web.steps(state)), [("hop", "a", (0,), turned), ("hop", "b", (0,), turned)])
        self.assertEqual(list(web.steps(state=turned)), [("hop", "a", (0,), state), ("hop", "b", (0,), state)])
        tight = Web.of(layout.in_band(2))
        self.assertEqual(list(tight.steps(state)), [])
        self.assertEqual([step[1] for step in Web.of(layout, still=("a",)).steps(state)], ["b"])
        self.assertEqual(list(Web.of(layout, still=("a", "b")).steps(state)), [])

    def test_a_signal_with_a_reserve(self):
        layout = Layout(line(), 2, {"a": 1}, {"a": ((0,), 0), "a*": ((1,), 0)})
        web = Web.of(layout, routes={"a": ((2,),), "a*": ((2,),)})
        state = web.state_of(layout)
        rows = state[0]
        steps = list(web.steps(state))
        self.assertEqual(steps, [
            ("light", "a", (0,), (rows + (("a+", (0,)),), (("a", "a+"),))),
            ("light", "a", (0,), (rows + (("a+", (0,)),), (("a+", "a"),))),
            ("light", "a", (2,), (rows + (("a+", (2,)),), ())),
            ("move", "a*", (2,), ((("a", (0,)), ("a*", (2,))), ())),
        ])
        doubled = steps[2][3]
        after = list(web.steps(doubled))
        self.assertEqual(after, [
            ("move", "a*", (2,), ((("a", (0,)), ("a*", (2,)), ("a+", (2,))), ())),
            ("out", "a", (), ((("a", (2,)), ("a*", (1,))), ())),
            ("quit", "a", (), state),
        ])
        # Behind the move the reserve lies with the twin, so only the light can stay.
        self.assertEqual([step[0] for step in web.steps(after[0][3])], ["move", "quit"])
        # A signal that is still is not lit anew, but its reserve moves.
        still = Web.of(layout, routes={"a": ((2,),), "a*": ((2,),)}, still=("a",))
        self.assertEqual(list(still.steps(state)), steps[3:])
        self.assertEqual([step[0] for step in still.steps(doubled)], ["move", "out", "quit"])

    def test_a_reserve_moves_on_its_own_route(self):
        layout = Layout(line(), 3, {"a": 1, "b": 1}, {"a": ((0,), 0), "a*": ((1,), 0), "b": ((1,), 1)})
        web = Web.of(layout, still=("a", "b"))
        state = web.state_of(layout)
        self.assertEqual(state[1], (("a*", "b"),))
        behind = (state[0], (("b", "a*"),))
        self.assertEqual(list(web.steps(state)), [("move", "a*", (1,), behind)])
        tight = Web.of(layout.in_band(2), still=("a", "b"))
        # The old place of the reserve is given up at once, but the new one is needed beside it.
        self.assertEqual(list(tight.steps(state)), [])

    def test_calls_grow_behind_out_and_quit(self):
        net = Net(*[("a", "b", 1, duct) for duct in "pqr"])
        spots = {"a": ((0,), 0), "a*": ((2,), 0), "a+": ((1,), 0), "b": ((2,), 0)}
        doubled = Layout(net, 2, {"a": 1, "b": 1}, spots)
        web = Web(net, 2, {"a": 1, "b": 1}, {"a": ((0,), (1,)), "a*": ((2,),), "b": ((2,),)})
        state = web.state_of(doubled)
        self.assertEqual(state[1], ())
        steps = list(web.steps(state))
        self.assertEqual([step[:3] for step in steps], [("out", "a", ()), ("out", "a", ()), ("quit", "a", ()),
                                                        ("quit", "a", ())])
        self.assertEqual([step[3][1] for step in steps], [(("a*", "b"),), (("b", "a*"),)] * 2)

    def test_generators_by_turns(self):
        layout = stack(1, 1, band=3)
        web = Web.of(layout)
        state = web.state_of(layout)
        one, other = web.steps(state), web.steps(state)
        self.assertEqual([next(one)[1], next(other)[1], next(one)[1], next(other)[1]], ["a", "a", "b", "b"])

    def test_five_items(self):
        layout = stack(1, 1, 1, 1, 1, band=6)
        web = Web.of(layout)
        state = web.state_of(layout)
        found = list(web.steps(state))
        self.assertEqual(found, sorted(set(found)))
        # Each of five lights can go to four other places among the others.
        self.assertEqual(len(found), 20)
        self.assertEqual(len({step[3] for step in found}), 16)
        wide = Web.of(layout.in_band(5))
        self.assertEqual(list(wide.steps(state)), [])

    def test_against_all_moves_of_small_nets(self):
        rng = generator(122)
        words = {}
        for first, routes, still in some_webs(123, 45):
            web = Web.of(first, routes=routes, still=still)
            found = Tried(first, routes, still)
            for state in rng.sample(sorted(found.layouts), min(len(found.layouts), 12)):
                steps = list(web.steps(state))
                self.assertEqual(steps, found.steps(state))
                for step in steps:
                    words[step[0]] = words.get(step[0], 0) + 1
                    self.assertIs(step[3] in web, True)
        self.assertEqual(set(words), {"hop", "light", "move", "out", "quit"})
        self.assertGreater(min(words.values()), 20)

    def test_against_all_moves_of_layouts_with_more_items(self):
        rng = generator(124)
        words = {}
        for first, routes, still in some_webs(125, 60, most=5):
            if len(first) < 4:
                continue
            web = Web.of(first, routes=routes, still=still)
            found = Tried(first, routes, still)
            for state in rng.sample(sorted(found.layouts), min(len(found.layouts), 6)):
                steps = list(web.steps(state))
                self.assertEqual(steps, found.steps(state))
                for step in steps:
                    words[step[0]] = words.get(step[0], 0) + 1
        self.assertGreater(len(words), 3)


class OfTest(unittest.TestCase):
    def raised(self, error, value, *told, **more):
        with self.assertRaises(error) as caught:
            Web.of(*told, **more)
        wrong = caught.exception
        for field in ("item", "value", "limit"):
            if hasattr(wrong, field):
                self.assertEqual(getattr(wrong, field), value)
                self.assertIs(type(getattr(wrong, field)), type(value))
                return wrong
        self.fail("no field")

    def test_told_routes(self):
        layout = small()
        goal = layout.with_item("a", (2,), 0)
        web = Web.of(layout, goal, routes={"b*": ((2,), (2,), (1,)), "b": ()})
        state = web.state_of(goal)
        self.assertIs(state in web, True)
        self.assertIs(web.state_of(layout.with_item("b*", (2,), 0)) in web, True)
        self.assertIs(web.state_of(layout.with_item("b", (2,), 0)) in web, False)
        words = [step[:3] for step in web.steps(web.state_of(layout))]
        self.assertEqual([word for word in words if word[0] == "hop"], [("hop", "a", (0,)), ("hop", "a", (2,))])
        self.assertIs(state in Web.of(first=layout, goal=("band", 3), routes=None, still=()), False)
        self.assertIs(state in Web.of(layout, None), False)

    def test_the_arguments_are_not_kept(self):
        layout = small()
        routes = {"a": ((2,),)}
        web = Web.of(layout, routes=routes)
        routes["a"] = ((1,),)
        routes["b"] = ((1,),)
        self.assertIs(web.state_of(layout.with_item("a", (2,), 0)) in web, True)
        self.assertIs(web.state_of(layout.with_item("a", (1,), 0)) in web, False)
        self.assertEqual(routes, {"a": ((1,),), "b": ((1,),)})

    def test_twins(self):
        layout = small()
        twin = layout.with_item("a+", (2,), 0)
        self.assertEqual(self.raised(InvalidLayout, "a+", twin).word, "twin")
        self.assertEqual(self.raised(InvalidLayout, "a+", layout, twin).word, "twin")
        other = layout.with_item("b+", (2,), 0)
        self.raised(InvalidLayout, "b+", other, twin)
        self.raised(InvalidLayout, "b+", layout, other.in_band(9), routes={"zz": ()})

    def test_unlike(self):
        layout = small()
        nets = Layout(line((200, 1)), 8, layout.rates, layout.spots)
        for goal in (layout.in_band(9), nets, small(rates={"a": 2, "b": 2}, spots={
                "a": ((0,), 0), "b": ((0,), 2), "b*": ((1,), 3)}), layout.without("a")):
            self.raised(Unlike, None, layout, goal, routes={"zz": ()}, still=("zz",))
        self.raised(Unlike, "b*", layout, layout.without("b*"))
        self.raised(Unlike, "a*", layout, layout.with_item("a*", (2,), 0).without("b*"))
        net = Net(("a", "b", 1, "p"), ("b", "c", 1, "q"), ("a", "b", 1, "r"))
        first = Layout(net, 4, {"a": 1, "b": 1}, {"a": ((0,), 0), "b": ((0,), 1)})
        self.raised(Unlike, "b", first, first.with_item("b", (1,), 0), routes={"zz": ()})
        self.raised(Unlike, "a", first, first.with_item("b", (1,), 0).with_item("a", (0, 1), 2))
        # Another route or place is nothing unlike.
        Web.of(first, first.with_item("b", (2,), 3))

    def test_no_item(self):
        layout = small()
        self.raised(NoItem, "a*", layout, routes={"c": (), "b": (), "a*": ((9,),)}, still=("zz",))
        self.raised(NoItem, "b+", layout, routes={"b+": ()})
        self.raised(NoItem, "", layout, routes={"": (), "A": ()})
        self.raised(NoItem, "c", layout, routes={"a": ((9,),)}, still=("a", "c", "d"))
        for value in STRANGE + ["b*", "b+", "zz"]:
            if value != "a":
                self.raised(NoItem, value, layout, still=("a", value))

    def test_invalid_route(self):
        layout = small()
        for value in STRANGE + [(3,), (0, 1), [0], (True,), (0, 0), (-1,)]:
            if not (value == (1,) and type(value[0]) is int):
                self.raised(InvalidRoute, value, layout, routes={"a": ((2,), value, (9,)), "b": ((8,),)})
        net = Net(("a", "b", 1, "p"), ("b", "c", 1, "q"), ("a", "b", 9, "r"), reach=[(8, 1)])
        first = Layout(net, 4, {"a": 1}, {"a": ((0,), 0)})
        self.raised(InvalidRoute, (1,), first, routes={"a": ((0,), (1,))})
        self.raised(InvalidRoute, (2,), first, routes={"a": ((2,), (1,))})
        # By ascending items: a reserve stands behind its light.
        self.raised(InvalidRoute, (7,), layout, routes={"b*": ((8,),), "b": ((7,),)})

    def test_too_many(self):
        many = stack(1, 1, 1, 1, 1, 1, band=6)
        self.raised(TooMany, 5, many)
        self.raised(TooMany, 5, many, routes={"a": ((0,), (1,), (2,))})
        self.raised(InvalidRoute, (3,), many, routes={"a": ((3,),)})
        net = Net(*[("a", "b", 1, duct) for duct in "pqrst"])
        first = Layout(net, 4, {"a": 1}, {"a": ((0,), 0)})
        self.raised(TooMany, 3, first, routes={"a": ((1,), (2,), (3,))})
        goal = first.with_item("a", (4,), 0)
        self.raised(TooMany, 3, first, goal, routes={"a": ((1,), (2,))})
        Web.of(first, goal, routes={"a": ((1,), (1,), (0,))})
        five = Layout(line(), 6, {"a": 1, "b": 1, "c": 1}, {
            "a": ((0,), 0), "b": ((0,), 1), "c": ((0,), 2), "a*": ((1,), 0), "b*": ((1,), 1)})
        web = Web.of(five, routes={item: ((0,), (1,), (2,)) for item in five.spots})
        self.assertTrue(list(web.steps(web.state_of(five))))
        self.raised(TooMany, 5, five.with_item("c*", (1,), 2))

    def test_several_at_once(self):
        layout = crowd()
        self.raised(InvalidLayout, "one+", layout, layout.in_band(11), routes={"zz": ((9,),)}, still=("zz",))
        many = stack(1, 1, 1, 1, 1, 1, band=6)
        self.raised(Unlike, None, many, many.in_band(7), routes={"zz": ()})
        self.raised(NoItem, "zz", many, routes={"a": ((9,),), "zz": ()})
        self.raised(NoItem, "zz", many, routes={"a": ((9,),)}, still=("zz",))
