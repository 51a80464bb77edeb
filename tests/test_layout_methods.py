"""Promises [2], [5], [6], [7] and [11]: the methods and properties of the class Layout."""

import unittest

from everlit.errors import InvalidBand, InvalidLayout, NoItem
from everlit.layouts import Layout, layout_fault
from everlit.nets import Net
from tests import oracle
from tests.samples import STRANGE, crowd, generator, ladder, line, random_net
from tests.test_layouts import random_spots


def random_layout(rng, band=8):
    """A layout with some signals, some reserves and perhaps a twin."""
    net = random_net(rng, rng.randint(2, 7), rng.randint(2, 4), rng.randint(1, 4))
    rates, wanted = random_spots(rng, net, ["a", "ab", "b", "c", "d"], band)
    layout = Layout(net, band, {}, {})
    # Lights and twins come ahead of the reserves, which depend on the calls.
    for item in sorted(wanted, key=lambda item: (item.endswith("*"), item)):
        name = oracle.name_of(item)
        spots = {**layout.spots, item: wanted[item]}
        told = {**layout.rates, name: rates[name]}
        if layout_fault(net, band, told, spots) is None:
            layout = Layout(net, band, told, spots)
    return layout


class ReadingTest(unittest.TestCase):
    def test_properties(self):
        layout = crowd()
        self.assertEqual(layout.net, ladder())
        self.assertEqual(layout.band, 10)
        self.assertEqual(layout.rates, {"one": 2, "two": 1, "wide": 3})
        self.assertEqual(list(layout.rates), ["one", "two", "wide"])
        self.assertEqual(list(layout.spots), ["one", "one*", "one+", "two", "wide", "wide*"])
        self.assertEqual(layout.spots["one*"], ((3, 2), 4))
        self.assertEqual(layout.signals, ("one", "two", "wide"))
        self.assertEqual(layout.doubled, "one")
        self.assertEqual(len(layout), 6)

    def test_empty_layout(self):
        layout = Layout(line(), 1, {}, {})
        self.assertEqual((layout.rates, layout.spots, layout.signals, layout.doubled), ({}, {}, (), None))
        self.assertEqual(len(layout), 0)
        self.assertEqual(repr(layout), "Layout(band 1, 0 items)")
        self.assertEqual(layout.placed({}), layout)
        self.assertEqual(layout.without(), layout)
        self.assertEqual(layout.mirrored(), layout)
        self.assertIs(layout.is_under(layout), True)
        self.assertIs("a" in layout, False)

    def test_not_doubled(self):
        self.assertIs(crowd().without("one+", "one*").doubled, None)

    def test_items(self):
        layout = crowd()
        self.assertEqual(layout["one"], ((0,), 0))
        self.assertEqual(layout["one+"], ((1,), 1))
        self.assertEqual(layout["one*"], ((3, 2), 4))
        for item in layout.spots:
            self.assertIs(item in layout, True)
            self.assertEqual(layout[item], layout.spots[item])

    def test_widths(self):
        layout = crowd()
        widths = {item: layout.width(item) for item in layout.spots}
        self.assertEqual(widths, {"one": 2, "one+": 2, "one*": 4, "two": 1, "wide": 3, "wide*": 6})
        self.assertEqual(layout.width(item="wide*"), 6)

    def test_calls(self):
        layout = crowd()
        self.assertEqual(layout.calls("one"), ())
        self.assertEqual(layout.calls("two"), ("x", "z"))
        self.assertEqual(layout.calls(name="wide"), ("w",))
        self.assertEqual(layout.without("one+", "one*").calls("one"), ("x",))
        net = Net(("a", "b", 1, "p"), ("b", "c", 1, "q"), ("a", "b", 1, "q"), ("b", "c", 1, "r"), ("a", "c", 1, "q"))
        rates = {"a": 1}
        doubled = Layout(net, 4, rates, {"a": ((0, 1), 0), "a+": ((2, 3), 0)})
        self.assertEqual(doubled.calls("a"), ("q",))
        self.assertEqual(doubled.with_item("a+", (4,), 0).calls("a"), ("q",))
        self.assertEqual(doubled.with_item("a+", (0, 1), 1).calls("a"), ("p", "q"))

    def test_calls_and_widths_by_the_document(self):
        rng = generator(11)
        for _ in range(300):
            layout = random_layout(rng)
            spots = layout.spots
            for name in layout.signals:
                calls = tuple(sorted(oracle.calls(layout.net, spots, name)))
                self.assertEqual(layout.calls(name), calls)
            for item in spots:
                rate = layout.rates[oracle.name_of(item)]
                self.assertEqual(layout.width(item), rate * oracle.factor(layout.net, spots[item][0]))

    def test_what_is_not_there(self):
        layout = crowd()
        for value in STRANGE + ["two+", "two*", "onee", "one ", "one++", ("one",), ["one"], "One"]:
            with self.subTest(value=str(value)[:40]):
                self.assertIs(value in layout, False)
                for ask in (layout.__getitem__, layout.width, layout.calls):
                    with self.assertRaises(NoItem) as caught:
                        ask(value)
                    self.assertIs(caught.exception.item, value)
        for item in ("one+", "one*"):
            with self.assertRaises(NoItem) as caught:
                layout.calls(item)
            self.assertEqual(caught.exception.item, item)

    def test_repr_and_no_iteration(self):
        self.assertEqual(repr(crowd()), "Layout(band 10, 6 items)")
        self.assertEqual(repr(Layout(line(), 1, {"a": 1}, {"a": ((0,), 0)})), "Layout(band 1, 1 items)")
        self.assertRaises(TypeError, iter, crowd())

    def test_equality(self):
        layout = crowd()
        spots, rates = layout.spots, layout.rates
        self.assertTrue(layout == crowd())
        self.assertFalse(layout != crowd())
        longer = Net(*layout.net.fibres, ("a", "b", 1, "d"), reach=layout.net.reach)
        others = [
            Layout(longer, 10, rates, spots), layout.in_band(11), layout.without("one*"), layout.without("two"),
            layout.placed({"two": 3}), layout.with_item("two", (3,), 0),
            Layout(layout.net, 10, {**rates, "two": 2}, spots),
        ]
        for other in others + STRANGE + [spots, str(layout), layout.net]:
            self.assertIs(layout == other, False)
            self.assertIs(layout != other, True)


class ChangingTest(unittest.TestCase):
    def refused(self, word, item, call):
        with self.assertRaises(InvalidLayout) as caught:
            call()
        self.assertEqual((caught.exception.word, caught.exception.item), (word, item))

    def missing(self, item, call):
        with self.assertRaises(NoItem) as caught:
            call()
        self.assertIs(caught.exception.item, item)

    def test_placed(self):
        layout = crowd()
        moved = layout.placed({"two": 3, "one+": 8})
        self.assertEqual(moved.spots, {**layout.spots, "two": ((0, 2), 3), "one+": ((1,), 8)})
        self.assertEqual(layout, crowd())
        self.assertEqual(layout.placed({}), layout)
        self.assertEqual(layout.placed(places={"two": 2}), layout)

    def test_placed_at_both_ends_of_the_band(self):
        layout = Layout(line((100, 2)), 8, {"a": 3}, {"a": ((0,), 1)})
        self.assertEqual(layout.placed({"a": 0})["a"], ((0,), 0))
        self.assertEqual(layout.placed({"a": 2})["a"], ((0,), 2))
        for place in (-1, 3, 64):
            self.refused("place", "a", lambda: layout.placed({"a": place}))

    def test_placed_wrongly(self):
        layout = crowd()
        self.missing("b", lambda: layout.placed({"two": None, "c": 1, "b": 1}))
        self.missing("", lambda: layout.placed({"two": 1, "": 1}))
        self.missing("two+", lambda: layout.placed({"two+": 1}))
        for value in STRANGE:
            if type(value) is int:
                continue
            with self.subTest(value=str(value)[:40]):
                self.refused("route", "two", lambda: layout.placed({"two": value, "wide": 99}))
        self.refused("place", "two", lambda: layout.placed({"two": 10}))
        self.refused("overlap", "one", lambda: layout.placed({"two": 1}))

    def test_with_item(self):
        layout = crowd()
        more = layout.with_item("new", (1,), 5, rate=2)
        self.assertEqual(more.rates, {**layout.rates, "new": 2})
        self.assertEqual(more.spots, {**layout.spots, "new": ((1,), 5)})
        self.assertEqual(list(more.rates), ["new", "one", "two", "wide"])
        self.assertEqual(layout, crowd())
        elsewhere = layout.with_item("two", (3,), 0)
        self.assertEqual(elsewhere.spots, {**layout.spots, "two": ((3,), 0)})
        self.assertEqual(elsewhere.rates, layout.rates)
        self.assertEqual(layout.with_item(item="two", route=(0, 2), place=2), layout)

    def test_with_item_and_a_rate(self):
        layout = Layout(line(), 8, {"a": 1}, {"a": ((0,), 0), "a*": ((1,), 4)})
        wider = layout.with_item("a", (0,), 2, rate=3)
        self.assertEqual(wider.rates, {"a": 3})
        self.assertEqual(wider.width("a*"), 3)
        self.refused("place", "a*", lambda: layout.with_item("a", (0,), 0, rate=5))
        for rate in (3, 99, "x", True, [1]):
            self.assertEqual(layout.with_item("a*", (1,), 0, rate=rate).rates, {"a": 1})
            self.assertEqual(layout.with_item("a+", (1,), 0, rate=rate).rates, {"a": 1})
        for rate in (0, 17, True, "1", [1], ()):
            self.refused("rates", None, lambda: layout.with_item("a", (0,), 0, rate=rate))
        self.assertRaises(TypeError, layout.with_item, "a", (0,), 0, 1)

    def test_with_item_wrongly(self):
        layout = crowd()
        for item in (None, True, 5, 10 ** 59, "", "A", "a++", "a" * 6000, (), ("a",), (1, ("b",))):
            with self.subTest(item=str(item)[:40]):
                self.refused("spots", None, lambda: layout.with_item(item, (1,), 5))
                self.refused("spots", None, lambda: layout.with_item(item, (1,), 5, rate=99))
        self.refused("signal", "new", lambda: layout.with_item("new", (1,), 5))
        self.refused("signal", "new*", lambda: layout.with_item("new*", (1,), 5, rate=1))
        self.refused("twin", "two+", lambda: layout.with_item("two+", (1, 2), 5))
        self.refused("route", "two", lambda: layout.with_item("two", [0, 2], 5))
        self.refused("far", "new", lambda: layout.with_item("new", (1, 5), 5, rate=1))
        self.refused("ends", "one*", lambda: layout.with_item("one*", (4,), 0))
        self.refused("place", "new", lambda: layout.with_item("new", (1,), 9, rate=2))
        self.refused("calls", "two*", lambda: layout.with_item("two*", (3,), 0))
        self.refused("overlap", "new", lambda: layout.with_item("new", (1,), 2, rate=1))
        twelve = Layout(line(), 13, {name: 1 for name in "abcdefghijkl"},
                        {name: ((0,), place) for place, name in enumerate("abcdefghijkl")})
        self.refused("rates", None, lambda: twelve.with_item("m", (0,), 12, rate=1))

    def test_without(self):
        layout = crowd()
        spots, rates = layout.spots, layout.rates
        self.assertEqual(layout.without("wide*").spots, {item: spots[item] for item in spots if item != "wide*"})
        self.assertEqual(layout.without("wide*").rates, rates)
        gone = layout.without("one")
        self.assertEqual(gone.spots, {item: spots[item] for item in ("two", "wide", "wide*")})
        self.assertEqual(gone.rates, {"two": 1, "wide": 3})
        self.assertEqual(layout.without("one", "one+", "wide").signals, ("two",))
        self.assertEqual(layout.without("wide*", "wide*"), layout.without("wide*"))
        self.assertEqual(layout.without("one", "two", "wide"), Layout(layout.net, 10, {}, {}))
        self.assertEqual(layout, crowd())

    def test_without_a_list(self):
        layout = crowd()
        self.assertEqual(layout.without(["one", "wide*"]), layout.without("one", "wide*"))
        self.assertEqual(layout.without("one", ["wide*"], []), layout.without("one", "wide*"))
        self.assertEqual(layout.without([]), layout)

    def test_without_what_is_not_there(self):
        layout = crowd()
        self.missing("two*", lambda: layout.without("one", "two*", "b"))
        self.missing("two*", lambda: layout.without(["one", "two*"], None))
        for value in STRANGE:
            if isinstance(value, list):
                continue
            with self.subTest(value=str(value)[:40]):
                self.missing(value, lambda: layout.without("one", value, "nix"))
        inner = ["one"]
        self.missing(inner, lambda: layout.without([inner]))

    def test_without_a_twin_that_is_needed(self):
        net = line()
        layout = Layout(net, 4, {"a": 1, "b": 1}, {
            "a": ((0,), 0), "a+": ((1,), 0), "a*": ((2,), 0), "b": ((2,), 0)})
        self.refused("overlap", "a*", lambda: layout.without("a+"))
        self.assertEqual(layout.without("a+", "b").signals, ("a",))
        self.refused("calls", "a*", lambda: layout.with_item("a*", (0,), 3).without("a+"))

    def test_in_band(self):
        layout = crowd()
        self.assertEqual(layout.in_band(64).band, 64)
        self.assertEqual(layout.in_band(64).in_band(10), layout)
        self.assertEqual(layout.in_band(band=10), layout)
        self.refused("place", "wide", lambda: layout.in_band(9))
        for value in STRANGE + [0, 65, -1]:
            if type(value) is int and 1 <= value <= 64:
                continue
            with self.subTest(value=str(value)[:40]):
                with self.assertRaises(InvalidBand) as caught:
                    layout.in_band(value)
                self.assertIs(caught.exception.value, value)

    def test_mirrored(self):
        layout = crowd()
        places = {item: spot[1] for item, spot in layout.mirrored().spots.items()}
        self.assertEqual(places, {"one": 8, "one+": 7, "one*": 2, "two": 7, "wide": 0, "wide*": 0})
        rng = generator(5)
        for _ in range(100):
            layout = random_layout(rng)
            mirrored = layout.mirrored()
            self.assertEqual(mirrored.mirrored(), layout)
            for item in layout.spots:
                route, place = mirrored[item]
                self.assertEqual(route, layout[item][0])
                self.assertEqual(place + layout.width(item) + layout[item][1], layout.band)

    def test_is_under(self):
        layout = crowd()
        self.assertIs(layout.is_under(layout), True)
        above = layout.placed({"two": 3, "one*": 5})
        self.assertIs(layout.is_under(above), True)
        self.assertIs(layout.is_under(other=above), True)
        self.assertIs(above.is_under(layout), False)
        crossed = layout.placed({"two": 3, "one*": 3})
        self.assertIs(layout.is_under(crossed), False)
        self.assertIs(crossed.is_under(layout), False)

    def test_is_under_asks_for_alike_layouts(self):
        layout = Layout(line(), 8, {"a": 1, "b": 2}, {"a": ((0,), 0), "b": ((1,), 0), "b*": ((2,), 0)})
        others = [
            layout.in_band(9), layout.without("b*"), layout.without("a"), layout.with_item("a", (1,), 3),
            layout.with_item("a", (0,), 0, rate=2), layout.with_item("c", (0,), 4, rate=1),
            Layout(line((100, 1)), 8, layout.rates, layout.spots), layout.with_item("b+", (0,), 5),
        ]
        for other in others:
            self.assertIs(layout.is_under(other), False)
            self.assertIs(other.is_under(layout), False)
        turned = Layout(line(), 8, {"a": 1, "b": 1}, {"a": ((0,), 0), "b": ((0,), 1)})
        other = turned.placed({"a": 3, "b": 2})
        self.assertIs(turned.is_under(other), True)


class ConventionsTest(unittest.TestCase):
    def test_no_argument_is_modified(self):
        net, rates, spots = line(), {"b": 1, "a": 1}, {"b": ((0,), 0), "a": ((0,), 1)}
        layout = Layout(net, 4, rates, spots)
        self.assertEqual((list(rates), list(spots)), (["b", "a"], ["b", "a"]))
        items, places = ["a", "b"], {"b": 2, "a": 3}
        layout.without(items)
        layout.without("a", items)
        layout.placed(places)
        self.assertEqual((items, places, list(places)), (["a", "b"], {"b": 2, "a": 3}, ["b", "a"]))
        fibres, reach = [("b", "a", 1, "d")], [(1, 1)]
        Net(fibres, reach=reach)
        self.assertEqual((fibres, reach), ([("b", "a", 1, "d")], [(1, 1)]))

    def test_later_changes_have_no_effect(self):
        fibres, reach, rates, spots = [("a", "b", 1, "d")], [(1, 1)], {"a": 1}, {"a": ((0,), 0)}
        net = Net(fibres, reach=reach)
        layout = Layout(net, 4, rates, spots)
        fibres.append(("a", "b", 1, "d"))
        reach.append((2, 2))
        rates["a"] = 3
        spots["a*"] = ((0,), 1)
        self.assertEqual((len(net), net.reach), (1, ((1, 1),)))
        self.assertEqual((layout.rates, layout.spots), ({"a": 1}, {"a": ((0,), 0)}))

    def test_what_is_returned_belongs_to_the_caller(self):
        layout = crowd()
        layout.rates["one"] = 16
        layout.rates.clear()
        layout.spots["one"] = None
        layout.spots.clear()
        self.assertEqual(layout, crowd())
        self.assertIsNot(layout.rates, layout.rates)
        self.assertIsNot(layout.spots, layout.spots)

    def test_an_error_changes_nothing(self):
        layout = crowd()
        for call in (
            lambda: layout.placed({"two": 99}), lambda: layout.placed({"nix": 1}), lambda: layout.in_band(1),
            lambda: layout.without("two", "nix"), lambda: layout.with_item("nix", (0,), 0),
            lambda: layout.with_item("two", (0,), 0, rate=99), lambda: layout["nix"],
        ):
            self.assertRaises((InvalidLayout, NoItem), call)
            self.assertEqual(layout, crowd())
