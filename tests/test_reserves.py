"""Promises [6], [7], [13] and [14]: who has a reserve, shared slots, and room for reserves."""

import itertools
import unittest

from everlit.errors import NoItem
from everlit.layouts import Layout
from everlit.nets import Net
from everlit.reserves import bare, guard, guard_routes, guarded, shared, shows_unguardable
from everlit.roomcheck import shows_barred
from everlit.rooms import room
from everlit.routes import routes_between
from tests import oracle
from tests.samples import STRANGE, crowd, generator, line
from tests.test_chains import stack
from tests.test_cuts import crowded_pair
from tests.test_layout_methods import random_layout
from tests.test_rooms import RoomTest, crowded, free_places
from tests.test_turned import small
from tests.trying import kinds_spoiled, tried


def routes_by_document(layout, name):
    """The routes that a reserve of the signal can have, in their order."""
    net = layout.net
    ends = oracle.ends_of(net, layout[name][0])
    found = []
    for route in routes_between(net, *ends):
        factor = oracle.factor(net, route)
        calls = oracle.calls(net, layout.spots, name)
        if factor is not None and not calls & set(oracle.ducts_of(net, route)):
            if factor * layout.rates[name] <= layout.band:
                found.append(route)
    return found


def random_line(rng):
    """Signals on three fibres, whose reserves may share slots."""
    layout = Layout(line(), 3, {}, {})
    for item in ("a", "b", "c", "a*", "b*", "c*"):
        rates = {**layout.rates, item[0]: layout.rates.get(item[0], rng.randint(1, 2))}
        spots = {**layout.spots, item: ((rng.randrange(3),), rng.randrange(2))}
        if oracle.fault(layout.net, 3, rates, spots) is None:
            layout = Layout(layout.net, 3, rates, spots)
    return layout


def unguardable():
    """A layout with a full band on the one fibre that a reserve of a could have."""
    net = Net(("a", "b", 1, "p"), ("a", "b", 1, "q"))
    return Layout(net, 3, {"a": 1, "b": 1, "c": 2}, {"a": ((0,), 0), "b": ((1,), 0), "c": ((1,), 1)})


class GuardedTest(unittest.TestCase):
    def test_signals(self):
        self.assertEqual((guarded(crowd()), bare(crowd())), (("one", "wide"), ("two",)))
        self.assertEqual((guarded(layout=small()), bare(layout=small())), (("b",), ("a",)))
        empty = Layout(line(), 1, {}, {})
        self.assertEqual((guarded(empty), bare(empty), list(shared(empty))), ((), (), []))
        self.assertEqual((guarded(crowded()), bare(crowded())), (crowded().signals, ()))

    def test_shared(self):
        self.assertEqual(list(shared(crowded_pair())), [("a*", "b*")])
        self.assertEqual(list(shared(layout=crowd())), [("one*", "wide*")])
        self.assertEqual(list(shared(small())), [])
        one, other = shared(crowded_pair()), shared(crowd())
        self.assertEqual([next(one), next(other)], [("a*", "b*"), ("one*", "wide*")])

    def test_random_layouts(self):
        rng = generator(110)
        count = 0
        for turn in range(300):
            layout = random_layout(rng, rng.choice([4, 6])) if turn % 3 else random_line(rng)
            reserves = [item for item in layout.spots if item.endswith("*")]
            held = {item: oracle.held(layout.net, layout.rates, layout.spots, item) for item in reserves}
            pairs = [pair for pair in itertools.combinations(reserves, 2) if held[pair[0]] & held[pair[1]]]
            self.assertEqual(list(shared(layout)), sorted(pairs))
            count += len(pairs)
            self.assertEqual(guarded(layout), tuple(item[:-1] for item in reserves))
            self.assertEqual(sorted(guarded(layout) + bare(layout)), list(layout.signals))
        self.assertGreater(count, 5)


class GuardRoutesTest(unittest.TestCase):
    def test_routes(self):
        self.assertEqual(list(guard_routes(small(), "a")), [(1,), (2,)])
        self.assertEqual(list(guard_routes(layout=crowd(), name="two")), [])
        # A doubled signal whose calls are none can have each route that is not too far.
        self.assertEqual(list(guard_routes(crowd(), "one")), [(0,), (1,), (3, 2), (3, 4, 5)][:3] + [
            route for route in routes_by_document(crowd(), "one")[3:]])

    def test_too_far_and_too_wide(self):
        net = Net(("a", "b", 1, "p"), ("a", "b", 5, "q"), ("a", "b", 9, "r"), ("a", "b", 20, "s"),
                  reach=[(4, 1), (8, 2), (12, 3)])
        layout = Layout(net, 8, {"a": 3}, {"a": ((0,), 0)})
        self.assertEqual(list(guard_routes(layout, "a")), [(1,)])
        self.assertEqual(list(guard_routes(layout.in_band(9), "a")), [(1,), (2,)])
        self.assertEqual(list(guard_routes(layout.in_band(5), "a")), [])
        self.assertEqual(guard(layout.in_band(5), "a"), ("barred", ()))

    def test_no_item(self):
        layout = crowd()
        for value in STRANGE + ["one*", "one+", "new", "One", ("one",), ["one"]]:
            calls = (lambda: next(guard_routes(layout, value)), lambda: guard(layout, value),
                     lambda: shows_unguardable(layout, value, ()))
            for call in calls:
                with self.assertRaises(NoItem) as caught:
                    call()
                self.assertIs(caught.exception.item, value)

    def test_random_layouts(self):
        rng = generator(111)
        count = 0
        for _ in range(200):
            layout = random_layout(rng, rng.choice([2, 4, 6]))
            for name in layout.signals:
                found = list(guard_routes(layout, name))
                self.assertEqual(found, routes_by_document(layout, name))
                count += len(found) > 1
        self.assertGreater(count, 20)

    def test_several_by_turns(self):
        one, other = guard_routes(small(), "a"), guard_routes(small(), "b")
        self.assertEqual([next(one), next(other), next(one), next(other)], [(1,), (1,), (2,), (2,)])


class GuardTest(unittest.TestCase):
    def test_room(self):
        layout = small()
        word, route, place, after = guard(layout, "a")
        self.assertEqual((word, route, place), ("room", (1,), 0))
        self.assertEqual(after["a*"], ((1,), 0))
        # The signal b has a reserve, which moves.
        self.assertEqual(guard(layout=layout, name="b"), ("room", (1,), 0, layout.placed({"b*": 0})))

    def test_reserves_that_share_slots(self):
        layout = crowded_pair().without("b*")
        self.assertEqual(guard(layout, "b")[:3], ("room", (0,), 0))
        full = Layout(line(), 2, {"a": 2, "b": 2}, {"a": ((0,), 0), "a*": ((2,), 0), "b": ((1,), 0)})
        self.assertEqual(guard(full, "b")[:3], ("room", (2,), 0))

    def test_barred(self):
        layout = unguardable()
        word, rows = guard(layout, "a")
        self.assertEqual((word, [row[0] for row in rows]), ("barred", [(1,)]))
        self.assertIs(shows_barred(layout, ("a*", (1,), None), rows[0][1]), True)
        self.assertIs(shows_unguardable(layout, "a", rows), True)
        self.assertEqual(guard(crowd(), "two"), ("barred", ()))
        self.assertIs(shows_unguardable(crowd(), "two", ()), True)

    def test_twelve_signals(self):
        layout = crowded()
        # Where the reserve stands it bars nothing, and in the full band only its own place is free.
        self.assertEqual(guard(layout, "c")[:2], ("room", (1,)))
        self.assertEqual(guard(layout, "c")[3], layout)
        self.assertEqual(guard(layout.without("c*"), "c")[:3], ("room", (1,), 0))

    def test_against_all_slides_of_small_layouts(self):
        seen = {"room": 0, "barred": 0}
        for found in tried(112, 120, items=(2, 3), band=(2, 4), clashing=False):
            layout = found.layout
            for name in layout.signals:
                free = {}
                for route in routes_by_document(layout, name):
                    free[route] = free_places(found, (name + "*", route, None))
                expected = next((route for route in free if free[route]), None)
                answer = guard(layout, name)
                seen[answer[0]] += 1
                if expected is None:
                    rows = tuple((route, room(layout, (name + "*", route, None))[1]) for route in free)
                    self.assertEqual(answer, ("barred", rows))
                    self.assertIs(shows_unguardable(layout, name, rows), True)
                    continue
                self.assertEqual(answer[:3], ("room", expected, free[expected][0]))
                self.assertEqual(answer[3], room(layout, (name + "*", expected, None))[2])
                RoomTest.has_slid(self, layout, answer[3], [((name + "*", expected, None), answer[2])])
                self.assertTrue(oracle.survives(layout.net, answer[3].rates, answer[3].spots))
        self.assertGreater(min(seen.values()), 20)


class ShowsUnguardableTest(unittest.TestCase):
    def setUp(self):
        self.layout = unguardable()
        self.rows = guard(self.layout, "a")[1]

    def test_rows(self):
        route, told = self.rows[0]
        self.assertIs(shows_unguardable(layout=self.layout, name="a", value=self.rows), True)
        self.assertIs(shows_unguardable(self.layout, "a", ((route, told[::-1] + told),)), True)
        for rows in ((), self.rows * 2, list(self.rows), ((route, told[1:]),), ((route,),), (route, told),
                     ([route, told],), (([1], told),), (((True,), told),), (((0,), told),), ((route, list(told)),),
                     ((route, told, ()),), ((route, ()),), ((route, None),), ((1, told),)):
            self.assertIs(shows_unguardable(self.layout, "a", rows), False)
        self.assertIs(shows_unguardable(self.layout.in_band(4), "a", self.rows), False)

    def test_several_routes_in_their_order(self):
        net = Net(("a", "b", 1, "p"), ("a", "b", 3, "q"), ("a", "b", 2, "r"))
        layout = Layout(net, 2, {"a": 1, "b": 2, "c": 2}, {"a": ((0,), 0), "b": ((1,), 0), "c": ((2,), 0)})
        rows = guard(layout, "a")[1]
        self.assertEqual([row[0] for row in rows], [(2,), (1,)])
        self.assertIs(shows_unguardable(layout, "a", rows), True)
        for value in (rows[::-1], rows[:1], rows[1:], rows + rows[:1], ((rows[0][0], rows[1][1]), rows[1])):
            self.assertIs(shows_unguardable(layout, "a", value), False)

    def test_any_value(self):
        for value in STRANGE:
            self.assertIs(shows_unguardable(self.layout, "a", value), False)
            self.assertIs(shows_unguardable(self.layout, "a", (value,)), False)
            self.assertIs(shows_unguardable(self.layout, "a", (((1,), value),)), False)
            self.assertIs(shows_unguardable(self.layout, "a", ((value, self.rows[0][1]),)), value == (1,))
        for value in kinds_spoiled(self.rows):
            told = shows_unguardable(self.layout, "a", value)
            # Only the rows within may stand several times.
            self.assertIs(told, type(value) is tuple and len(value) == 1 and type(value[0]) is tuple
                          and len(value[0]) == 2 and value[0][0] == (1,) and type(value[0][0]) is tuple
                          and type(value[0][0][0]) is int
                          and shows_barred(self.layout, ("a*", (1,), None), value[0][1]))

    def test_a_signal_with_a_reserve(self):
        layout = stack(1, band=1)
        full = layout.with_item("a*", (1,), 0)
        self.assertEqual(guard(full, "a")[:3], ("room", (1,), 0))
        self.assertIs(shows_unguardable(full, "a", (((1,), ()), ((2,), ()))), False)
