"""Promise [11]: layouts that are alike, and pairs that are turned."""

import itertools
import unittest

from everlit.chains import lifted, settled
from everlit.errors import Unlike
from everlit.layouts import Layout, layout_fault
from everlit.nets import Net
from everlit.orders import order_of
from everlit.turned import need_alike, turned
from tests import oracle
from tests.samples import crowd, generator, line
from tests.test_layout_methods import random_layout


def small(**changes):
    """A layout with two signals on fibre 0 and a reserve of the upper one on fibre 1."""
    told = {"net": line(), "band": 8, "rates": {"a": 1, "b": 2}, **changes}
    spots = {"a": ((0,), 0), "b": ((0,), 1), "b*": ((1,), 3)}
    return Layout(told["net"], told["band"], told["rates"], told.get("spots", spots))


def placings(layout):
    """All layouts that are alike, by their places in the order of the items."""
    items = sorted(layout.spots)
    found = {}
    for places in itertools.product(range(layout.band), repeat=len(items)):
        spots = {item: (layout[item][0], place) for item, place in zip(items, places)}
        if layout_fault(layout.net, layout.band, layout.rates, spots) is None:
            found[places] = Layout(layout.net, layout.band, layout.rates, spots)
    return found


def small_layouts(seed, many):
    """Layouts with two to four items in a small band, whose clashes are not none."""
    rng = generator(seed)
    count = 0
    while count < many:
        layout = random_layout(rng, rng.randint(3, 6))
        if 2 <= len(layout) <= (4 if layout.band < 6 else 3) and len(order_of(layout)):
            count += 1
            yield layout


class NeedAlikeTest(unittest.TestCase):
    def unlike(self, item, one, other):
        """Checks both functions, both ways round."""
        for call in (need_alike, turned):
            for pair in ((one, other), (other, one)):
                with self.assertRaises(Unlike) as caught:
                    call(*pair)
                self.assertEqual(caught.exception.item, item)

    def test_alike(self):
        layout = small()
        for other in (layout, small(), layout.placed({"b": 5}), layout.placed({"a": 7}), layout.mirrored()):
            self.assertIs(need_alike(layout, other), None)
            self.assertIs(need_alike(first=other, goal=layout), None)
        empty = Layout(line(), 1, {}, {})
        self.assertIs(need_alike(empty, Layout(line(), 1, {}, {})), None)
        self.assertEqual(turned(empty, empty), [])

    def test_another_net(self):
        layout = small()
        nets = [
            Net(*line().fibres, ("a", "b", 1, "d")), line((100, 1)),
            Net(("a", "b", 100, "p"), ("a", "b", 100, "q"), ("a", "b", 100, "s")),
            Net(("a", "b", 99, "p"), ("a", "b", 100, "q"), ("a", "b", 100, "r")),
        ]
        for net in nets:
            self.unlike(None, layout, small(net=net))

    def test_another_band(self):
        self.unlike(None, small(), small(band=9))
        self.unlike(None, Layout(line(), 1, {}, {}), Layout(line(), 2, {}, {}))

    def test_another_item(self):
        layout = small()
        self.unlike("b*", layout, layout.without("b*"))
        self.unlike("b", layout, layout.without("b"))
        self.unlike("a", layout, layout.without("a"))
        self.unlike("a", layout, Layout(line(), 8, {}, {}))
        self.unlike("a*", layout, layout.with_item("a*", (2,), 0))
        self.unlike("a+", layout, layout.with_item("a+", (2,), 0))
        self.unlike("ab", layout, layout.with_item("ab", (2,), 0, rate=1))

    def test_another_route(self):
        layout = small()
        self.unlike("a", layout, layout.with_item("a", (2,), 0))
        self.unlike("b*", layout, layout.with_item("b*", (2,), 3))

    def test_another_rate(self):
        layout = small()
        self.unlike("a", layout, layout.placed({"b": 4}).with_item("a", (0,), 0, rate=3))
        self.unlike("b", layout, layout.with_item("b", (0,), 1, rate=1))
        # Another rate and another route, on which the width is the same.
        net = Net(("a", "b", 1, "p"), ("a", "b", 9, "q"), reach=[(1, 1), (9, 2)])
        one = Layout(net, 8, {"a": 2}, {"a": ((0,), 0)})
        self.unlike("a", one, Layout(net, 8, {"a": 1}, {"a": ((1,), 0)}))

    def test_several_at_once(self):
        layout = small()
        other = layout.with_item("b*", (2,), 3).with_item("b", (0,), 1, rate=1)
        self.unlike("b", layout, other)
        self.unlike("a", layout, other.without("a"))
        self.unlike("ab", layout, other.with_item("ab", (2,), 0, rate=1))
        self.unlike(None, layout, other.without("a").in_band(9))
        self.unlike(None, small(net=line((100, 1)), band=9), other.without("a"))
        self.unlike("a+", layout, other.with_item("a+", (2,), 0))

    def test_is_under_asks_for_the_same(self):
        rng = generator(41)
        for _ in range(300):
            layout = random_layout(rng)
            need_alike(layout, layout.mirrored())
            self.assertIs(layout.is_under(layout), True)
            for item in layout.spots:
                if item.endswith("+"):
                    continue
                less = layout.without(item)
                gone = min(set(layout.spots) - set(less.spots))
                self.unlike(gone, layout, less)
                self.assertIs(layout.is_under(less), False)


class TurnedTest(unittest.TestCase):
    def test_turned(self):
        layout = small()
        self.assertEqual(turned(layout, layout), [])
        self.assertEqual(turned(layout, layout.placed({"a": 7})), [("a", "b")])
        self.assertEqual(turned(first=layout.placed({"a": 7}), goal=layout), [("b", "a")])
        self.assertEqual(turned(layout, layout.placed({"b": 5, "b*": 0})), [])

    def test_ascending_and_new_each_time(self):
        names = "abcd"
        layout = Layout(line(), 4, {name: 1 for name in names}, {name: ((0,), 3 - at) for at, name in enumerate(names)})
        found = turned(layout, layout.mirrored())
        self.assertEqual(found, [(b, a) for b in names for a in names if a < b])
        found.clear()
        self.assertEqual(len(turned(layout, layout.mirrored())), 6)
        self.assertEqual(turned(layout, layout.placed({"a": 2, "b": 3})), [("b", "a")])

    def test_reserves_and_a_twin(self):
        layout = crowd()
        goal = layout.placed({"wide*": 3, "two": 9})
        self.assertEqual(turned(layout, goal), [("two", "wide*")])
        self.assertEqual(turned(goal, layout), [("wide*", "two")])
        self.assertEqual(turned(layout, layout.placed({"one*": 0})), [])

    def test_against_the_document(self):
        rng = generator(42)
        count = 0
        while count < 200:
            layout = random_layout(rng)
            goal = layout.mirrored()
            if rng.random() < 0.5:
                goal = rng.choice([settled, lifted])(goal)
            before = oracle.order_pairs(layout.net, layout.spots)
            after = oracle.order_pairs(goal.net, goal.spots)
            expected = [(lower, upper) for lower, upper in before if (upper, lower) in after]
            self.assertEqual(turned(layout, goal), expected)
            count += bool(expected)

    def test_slides_lead_to_it_if_and_only_if_no_pair_is_turned(self):
        for layout in small_layouts(43, 30):
            found = placings(layout)
            start = tuple(layout[item][1] for item in sorted(layout.spots))
            reached, waiting = {start: 0}, [start]
            for places in waiting:
                for at, step in itertools.product(range(len(places)), (1, -1)):
                    then = places[:at] + (places[at] + step,) + places[at + 1:]
                    if then in found and then not in reached:
                        reached[then] = reached[places] + 1
                        waiting.append(then)
            for places, goal in found.items():
                self.assertIs(places in reached, turned(layout, goal) == [])
                if places in reached:
                    self.assertEqual(reached[places], sum(abs(a - b) for a, b in zip(places, start)))
