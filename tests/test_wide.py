"""Promises [18], [22] and [24]: movers, wide bands and plans in them."""

import itertools
import unittest

from everlit.demands import unmet
from everlit.errors import TooNarrow, Unlike
from everlit.layouts import Layout
from everlit.nets import Net
from everlit.plans import hops_in, plan_fault, play, tally
from everlit.routes import routes_between
from everlit.wide import movers, wide_band, wide_plan
from tests import oracle
from tests.samples import crowd, generator, line
from tests.test_chains import stack
from tests.test_demands import piled


def tried_movers(first, goal):
    """The first of the least sets of movers, of all sets of signals."""
    names = first.signals
    needed = {name for name in names if first[name][0] != goal[name][0]}
    pairs = [set(pair) for pair in itertools.combinations(names, 2) if is_turned(first, goal, *pair)]
    for many in range(len(names) + 1):
        for told in itertools.combinations(names, many):
            if needed <= set(told) and all(pair & set(told) for pair in pairs):
                return told


def is_turned(first, goal, one, other):
    """Whether two lights clash in both layouts and lie the other way round."""
    if not all(oracle.clash(layout.net, layout.spots, one, other) for layout in (first, goal)):
        return False
    return (first[one][1] < first[other][1]) != (goal[one][1] < goal[other][1])


def tried_band(first, goal):
    widths = [max(first.width(name), goal.width(name)) for name in first.signals]
    return sum(widths) + max(widths) if widths else 0


def lit_layout(rng, net, routes, rates, band):
    """A layout with lights on some of the routes that each can have, or None if they have no room."""
    spots = {}
    for name in rng.sample(sorted(rates), len(rates)):
        fits = []
        for spot in itertools.product(routes[name], range(band)):
            told = {**spots, name: spot}
            if oracle.fault(net, band, {item: rates[item] for item in told}, told) is None:
                fits.append(spot)
        if not fits:
            return None
        spots[name] = rng.choice(fits[:4] if rng.random() < 0.8 else fits)
    return Layout(net, band, rates, spots)


def some_pairs(seed, many, most=5, loose=False):
    """Pairs of layouts of lights with the same ends, in the wide band or, if loose, a wider one."""
    rng = generator(seed)
    count = 0
    while count < many:
        ways = [("a", "b"), ("b", "c"), ("a", "c"), ("a", "b"), ("b", "c")][:rng.randint(1, 5)]
        reach = rng.choice([(), ((1, 1), (2, 2)), ((1, 2), (9, 3))])
        net = Net(*[(*pair, 1, rng.choice("pqr")) for pair in ways], reach=reach)
        ends = [pair for pair in itertools.combinations(net.stations, 2) if list(routes_between(net, *pair))]
        names = "abcdefgh"[:rng.randint(1, most)]
        routes = {}
        for name in names:
            found = list(routes_between(net, *rng.choice(ends)))
            routes[name] = rng.sample(found, rng.randint(1, min(2, len(found))))
        rates = {name: rng.choice([1, 1, 2]) for name in names}
        pair = [lit_layout(rng, net, routes, rates, 14) for _ in range(2)]
        if None in pair:
            continue
        band = tried_band(*pair)
        if any(layout[name][1] + layout.width(name) > band for layout in pair for name in names):
            continue
        count += 1
        band += rng.randint(0, 3) if loose else 0
        yield [layout.in_band(band) for layout in pair]


class MoversTest(unittest.TestCase):
    def test_small_ones(self):
        empty = Layout(line(), 5, {}, {})
        self.assertEqual(movers(empty, empty), ())
        first = piled("abc")
        self.assertEqual(movers(first, first), ())
        self.assertEqual(movers(first=first, goal=piled("bac")), ("a",))
        self.assertEqual(movers(first, piled("cba")), ("a", "b"))
        self.assertEqual(movers(first, piled("bca")), ("a",))
        self.assertEqual(movers(first, piled("cab")), ("c",))
        self.assertEqual(movers(first, piled("abc", routes={"c": (1,), "b": (1,)})), ("b", "c"))
        # One that must move for its route covers its pairs as well.
        self.assertEqual(movers(piled("abcd"), piled("bacd", routes={"d": (1,)})), ("a", "d"))
        self.assertEqual(movers(piled("abcd"), piled("bdac", routes={"c": (1,)})), ("a", "c"))

    def test_twelve_signals(self):
        names = "abcdefghijkl"
        self.assertEqual(movers(piled(names), piled(names[::-1])), tuple(names[:-1]))
        self.assertEqual(movers(piled(names), piled(names[1:] + "a")), ("a",))
        self.assertEqual(movers(piled(names), piled("l" + names[:-1])), ("l",))
        self.assertEqual(movers(piled(names), piled("badcfehgjilk")), tuple("acegik"))
        other = piled(names, routes={name: (1,) for name in names})
        self.assertEqual(movers(piled(names), other), tuple(names))

    def test_against_all_sets(self):
        sizes = {}
        for first, goal in some_pairs(250, 120, most=7):
            found = movers(first, goal)
            self.assertEqual(found, tried_movers(first, goal))
            sizes[len(found)] = sizes.get(len(found), 0) + 1
        self.assertGreater(len(sizes), 4)
        rng = generator(251)
        for _ in range(60):
            names = "abcdefghi"
            first, goal = ["".join(rng.sample(names, 9)) for _ in range(2)]
            goal = rng.choice([goal, first[3:] + first[:3], first[0] + first[1:][::-1]])
            pair = piled(first), piled(goal)
            self.assertEqual(movers(*pair), tried_movers(*pair))


class WideBandTest(unittest.TestCase):
    def test_widths(self):
        empty = Layout(line(), 5, {}, {})
        self.assertEqual(wide_band(empty, empty), 0)
        self.assertEqual(wide_band(stack(3), stack(3)), 6)
        self.assertEqual(wide_band(first=stack(1, 5, 2), goal=stack(1, 5, 2)), 13)
        net = Net(("a", "b", 1, "p"), ("a", "b", 5, "q"), reach=((1, 1), (9, 3)))
        first = Layout(net, 20, {"a": 2, "b": 1}, {"a": ((0,), 0), "b": ((1,), 0)})
        goal = Layout(net, 20, {"a": 2, "b": 1}, {"a": ((1,), 5), "b": ((0,), 0)})
        # The greater width of each: 6 and 3, and 6 for the twin.
        self.assertEqual((wide_band(first, goal), wide_band(goal, first)), (15, 15))

    def test_any_pairs(self):
        for first, goal in some_pairs(252, 40):
            self.assertEqual(wide_band(first, goal), tried_band(first, goal))


class WidePlanTest(unittest.TestCase):
    def check(self, first, goal):
        rise, fall = wide_plan(first, goal)
        self.assertEqual((type(rise), type(fall)), (tuple, tuple))
        names = movers(first, goal)
        for part in (rise, fall):
            self.assertLessEqual(set(tally(part)), {"slide", "light", "out"})
        lit = [move[1] for move in rise if move[0] == "light"]
        self.assertEqual(sorted(lit), list(names))
        for move in rise:
            if move[0] == "light":
                self.assertIn(move[2], (first[move[1]][0], goal[move[1]][0]))
        lit = [move[1] for move in fall if move[0] == "light"]
        self.assertEqual(len(lit), len(set(lit)))
        self.assertLessEqual(set(lit), set(names))
        top = play(first, *rise)
        for name in names:
            for other in first.signals:
                if other not in names and oracle.clash(top.net, top.spots, name, other):
                    self.assertGreater(top[name][1], top[other][1])
        self.assertIs(plan_fault(first, goal, rise + fall), None)
        self.assertLessEqual(hops_in(rise + fall), 2 * len(names))
        counts = {name: lit.count(name) + 1 for name in names}
        self.assertEqual(unmet(first, goal, counts), [])
        return rise, fall

    def test_small_ones(self):
        empty = Layout(line(), 5, {}, {})
        self.assertEqual(wide_plan(empty, empty), ((), ()))
        first = piled("abc", band=4)
        self.assertEqual(wide_plan(first, first), ((), ()))
        self.check(first, first.placed({"c": 3, "b": 2}))
        rise, _ = self.check(first, piled("cba", band=4))
        self.assertEqual(hops_in(rise), 2)
        self.check(first, piled("bca", band=4, routes={"c": (2,)}))
        self.check(stack(3, band=6), stack(3, band=6).with_item("a", (2,), 1))

    def test_orders_turned_about_in_the_wide_band(self):
        for many in range(1, 13):
            names = "abcdefghijkl"[:many]
            rates = {name: 1 + at % 4 for at, name in enumerate(names)}
            first, goal = piled(names, 64, rates), piled(names[::-1], 64, rates)
            needed = wide_band(first, goal)
            self.assertEqual(needed, sum(rates.values()) + max(rates.values()))
            self.check(first.in_band(needed), goal.in_band(needed))
            self.check(first, goal)

    def test_one_slot_less(self):
        for first, goal in [(piled("ab"), piled("ba")), (piled("abc"), piled("abc")), (stack(2), stack(2))]:
            needed = wide_band(first, goal)
            self.check(first.in_band(needed), goal.in_band(needed))
            with self.assertRaises(TooNarrow) as caught:
                wide_plan(first.in_band(needed - 1), goal.in_band(needed - 1))
            self.assertEqual(caught.exception.needed, needed)
            self.assertIs(type(caught.exception.needed), int)

    def test_any_pairs(self):
        count = 0
        for first, goal in itertools.chain(some_pairs(253, 120), some_pairs(254, 40, loose=True)):
            _, fall = self.check(first, goal)
            count += hops_in(fall) > 1
        self.assertGreater(count, 30)

    def test_twelve_signals_on_several_routes(self):
        rng = generator(255)
        net = Net(("a", "b", 1, "p"), ("b", "c", 1, "q"), ("a", "c", 1, "r"), ("a", "b", 1, "s"))
        names = "abcdefghijkl"
        for _ in range(6):
            ends = {name: rng.choice([("a", "b"), ("b", "c"), ("a", "c")]) for name in names}
            routes = {name: list(routes_between(net, *ends[name])) for name in names}
            rates = {name: rng.choice([1, 2, 3]) for name in names}
            first, goal = [lit_layout(rng, net, routes, rates, 40) for _ in range(2)]
            self.check(first, goal)


class ErrorsTest(unittest.TestCase):
    def raised(self, item, first, goal):
        for call in (movers, wide_band, wide_plan):
            with self.assertRaises(Unlike) as caught:
                call(first, goal)
            self.assertEqual(caught.exception.item, item)

    def test_in_their_order(self):
        first = piled("abc")
        other = Net(("a", "b", 1, "p"))
        self.raised(None, first, piled("abd", net=other))
        self.raised("c", first, piled("abd", band=13))
        self.raised("b", first, piled("abc", rates={"b": 2}))
        twin = first.with_item("b+", (1,), 0)
        self.raised("b+", twin, first.in_band(13))
        self.raised("b+", first.with_item("a*", (1,), 0), twin)
        self.raised(None, first, first.in_band(13))
        self.raised(None, first.with_item("a*", (1,), 0), first.in_band(13))
        self.raised("a*", first.with_item("a*", (1,), 0), first)
        self.raised("a*", first.with_item("b*", (1,), 0), first.with_item("a*", (1,), 0))
        self.raised("c*", first, first.with_item("c*", (1,), 0))
        self.raised("one+", crowd(), crowd())
        # All of these come ahead of a band that is too narrow.
        tight = piled("ab", band=2)
        self.raised("b*", tight.with_item("b*", (1,), 0), tight)
        with self.assertRaises(TooNarrow) as caught:
            wide_plan(tight, piled("ba", band=2))
        self.assertEqual(caught.exception.needed, 3)
