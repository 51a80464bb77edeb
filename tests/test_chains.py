"""Promise [10]: lows and highs, the heaviest chain of a layout, and the facts about its order."""

import unittest

from everlit.chaincheck import chain_weight
from everlit.chains import heaviest_chain, highs, least_band, lifted, lows, settled, spread
from everlit.errors import InvalidLayout, Turned, Unlike
from everlit.layouts import Layout
from everlit.orders import order_of
from tests.samples import crowd, generator, line
from tests.test_layout_methods import random_layout
from tests.test_turned import placings, small, small_layouts


def places(layout):
    return {item: spot[1] for item, spot in layout.spots.items()}


def stack(*widths, band=64):
    """A layout with lights a, b, c .. of these widths, one above the other."""
    rates = {name: width for name, width in zip("abcdefghijkl", widths)}
    spots = {name: ((0,), sum(widths[:at])) for at, name in enumerate(rates)}
    return Layout(line(), band, rates, spots)


class ChainsTest(unittest.TestCase):
    def test_a_layout_without_items(self):
        layout = Layout(line(), 1, {}, {})
        self.assertEqual((lows(layout), highs(layout)), ({}, {}))
        self.assertEqual((settled(layout), lifted(layout)), (layout, layout))
        self.assertEqual((heaviest_chain(layout), least_band(layout)), ((), 0))
        self.assertEqual(spread(layout, layout), (layout, layout))

    def test_the_crowd(self):
        layout = crowd()
        self.assertEqual(lows(layout), {"one": 0, "one*": 0, "one+": 0, "two": 2, "wide": 0, "wide*": 3})
        self.assertEqual(highs(layout), {"one": 1, "one*": 6, "one+": 8, "two": 3, "wide": 7, "wide*": 4})
        self.assertEqual(list(lows(layout)), sorted(layout.spots))
        self.assertEqual(list(highs(layout)), sorted(layout.spots))
        self.assertEqual((heaviest_chain(layout), least_band(layout)), (("one", "two", "wide*"), 9))
        self.assertEqual(places(settled(layout)), lows(layout))
        self.assertEqual(places(lifted(layout)), highs(layout))
        self.assertEqual((settled(layout).net, settled(layout).rates), (layout.net, layout.rates))

    def test_a_full_band_and_both_ends(self):
        layout = stack(3, 1, 16, band=20)
        self.assertEqual(lows(layout), places(layout))
        self.assertEqual(highs(layout), places(layout))
        self.assertEqual((heaviest_chain(layout), least_band(layout)), (("a", "b", "c"), 20))
        self.assertIs(order_of(layout).fits(20), True)
        self.assertIs(order_of(layout).fits(19), False)
        wider = layout.in_band(64)
        self.assertEqual(highs(wider), {"a": 44, "b": 47, "c": 48})
        self.assertEqual(lows(lifted(wider)), places(layout))

    def test_twelve_signals(self):
        layout = stack(*[5] * 12)
        self.assertEqual(heaviest_chain(layout), tuple("abcdefghijkl"))
        self.assertEqual(least_band(layout), 60)
        self.assertEqual(lows(layout)["l"], 55)
        self.assertEqual(highs(layout)["a"], 4)

    def test_widths_of_128(self):
        net = line((100, 8))
        layout = Layout(net, 64, {"a": 8}, {"a": ((0,), 0)})
        self.assertEqual((least_band(layout), lows(layout), highs(layout)), (64, {"a": 0}, {"a": 0}))
        with self.assertRaises(InvalidLayout):
            Layout(net, 64, {"a": 16}, {"a": ((0,), 0)})

    def test_arguments_by_name_and_new_dicts(self):
        layout = crowd()
        for call in (lows, highs, settled, lifted, heaviest_chain, least_band):
            self.assertEqual(call(layout=layout), call(layout))
        lows(layout).clear()
        highs(layout).clear()
        self.assertEqual(len(lows(layout)), 6)
        self.assertEqual(len(highs(layout)), 6)
        self.assertEqual(layout, crowd())

    def test_random_layouts(self):
        rng = generator(51)
        for _ in range(300):
            layout = random_layout(rng)
            order = order_of(layout)
            low, high = settled(layout), lifted(layout)
            self.assertEqual((order_of(low), order_of(high)), (order, order))
            self.assertTrue(low.is_under(layout) and layout.is_under(high))
            self.assertEqual((lows(low), lows(high)), (lows(layout), lows(layout)))
            self.assertEqual(highs(low), highs(layout))
            chain = heaviest_chain(layout)
            self.assertEqual(sum(layout.width(item) for item in chain), least_band(layout))
            self.assertEqual(chain_weight(order, chain), least_band(layout) if chain else None)
            self.assertEqual(least_band(layout),
                             max([place + layout.width(item) for item, place in lows(layout).items()], default=0))

    def test_the_facts_about_an_order(self):
        for layout in small_layouts(52, 40):
            order = order_of(layout)
            alike = [other for other in placings(layout).values() if order_of(other) == order]
            told = [places(other) for other in alike]
            self.assertEqual(lows(layout), {item: min(row[item] for row in told) for item in layout.spots})
            self.assertEqual(highs(layout), {item: max(row[item] for row in told) for item in layout.spots})
            self.assertIn(settled(layout), alike)
            self.assertIn(lifted(layout), alike)
            self.assertIs(order.circle, None)
            self.assertLessEqual(order.weight, layout.band)
            for other in alike[:20]:
                low, high = spread(layout, other)
                self.assertIn(low, alike)
                self.assertIn(high, alike)


class SpreadTest(unittest.TestCase):
    def test_spread(self):
        layout = small()
        other = layout.placed({"a": 1, "b": 6, "b*": 0})
        low, high = spread(layout, other)
        self.assertEqual(places(low), {"a": 0, "b": 1, "b*": 0})
        self.assertEqual(places(high), {"a": 1, "b": 6, "b*": 3})
        self.assertEqual(spread(one=other, other=layout), (low, high))
        self.assertEqual(spread(layout, layout), (layout, layout))
        self.assertEqual(spread(low, high), (low, high))
        self.assertIs(type(spread(low, high)), tuple)

    def test_turned(self):
        layout = stack(1, 1, 1, band=8)
        for goal, pair in (
            (layout.placed({"a": 5}), ("a", "b")), (layout.placed({"c": 0, "a": 2}), ("a", "b")),
            (layout.placed({"b": 5}), ("b", "c")), (layout.placed({"b": 0, "a": 1}), ("a", "b")),
            (layout.placed({"c": 0, "a": 1, "b": 2}), ("a", "c")),
        ):
            with self.assertRaises(Turned) as caught:
                spread(layout, goal)
            self.assertEqual((caught.exception.lower, caught.exception.upper), pair)
        with self.assertRaises(Turned) as caught:
            spread(layout.placed({"a": 5}), layout)
        self.assertEqual((caught.exception.lower, caught.exception.upper), ("b", "a"))

    def test_unlike_ahead_of_turned(self):
        layout = small()
        goal = layout.placed({"a": 7})
        for other, item in ((goal.in_band(9), None), (goal.without("b*"), "b*"), (goal.with_item("a", (2,), 0), "a"),
                            (goal.with_item("b", (0,), 1, rate=1), "b"), (goal.without("b").in_band(9), None)):
            for pair in ((layout, other), (other, layout)):
                with self.assertRaises(Unlike) as caught:
                    spread(*pair)
                self.assertEqual(caught.exception.item, item)
        self.assertEqual(layout, small())
