"""Promises [5], [6] and the facts of [13]: which items clash, and who holds a slot."""

import unittest

from everlit.clashes import clash, clashing, occupants
from everlit.errors import InvalidLayout, NoFibre, NoItem
from everlit.layouts import Layout
from everlit.nets import Net
from everlit.routes import ends_of, routes_between
from tests import oracle
from tests.samples import STRANGE, crowd, generator, line
from tests.test_layout_methods import random_layout


def cross():
    """Four fibres from a to b: 0 and 1 in duct p, 2 in q, 3 in r."""
    return Net(("a", "b", 1, "p"), ("a", "b", 1, "p"), ("a", "b", 1, "q"), ("a", "b", 1, "r"))


def spots_of(**spots):
    """Spots with `_x` for `+` and `_y` for `*` in the names, each on one fibre or a tuple of them."""
    marks = {"x": "+", "y": "*"}
    found = {}
    for word, (route, place) in spots.items():
        name, _, mark = word.partition("_")
        found[name + marks.get(mark, "")] = (route if isinstance(route, tuple) else (route,), place)
    return found


def layout_of(net, band, **spots):
    """A layout whose signals all have the rate 1."""
    told = spots_of(**spots)
    return Layout(net, band, {oracle.name_of(item): 1 for item in told}, told)


class ClashTest(unittest.TestCase):
    def clash_is(self, expected, layout, one, other):
        self.assertIs(clash(layout, one, other), expected)
        self.assertIs(clash(layout, other, one), expected)
        pair = (min(one, other), max(one, other))
        self.assertIs(pair in list(clashing(layout)), expected)

    def test_two_lit_items(self):
        net = Net(("a", "b", 1, "p"), ("b", "c", 1, "q"), ("b", "c", 1, "p"))
        layout = layout_of(net, 8, one=(0, 0), two=((0, 1), 3), two_x=((0, 2), 6), six=(2, 1))
        self.clash_is(True, layout, "one", "two")
        self.clash_is(True, layout, "one", "two+")
        self.clash_is(True, layout, "two", "two+")
        self.clash_is(True, layout, "six", "two+")
        self.clash_is(False, layout, "six", "two")
        self.clash_is(False, layout, "one", "six")

    def test_an_item_does_not_clash_with_itself(self):
        layout = crowd()
        for item in layout.spots:
            self.assertIs(clash(layout, item, item), False)

    def test_a_reserve_and_a_lit_item(self):
        net = cross()
        layout = layout_of(net, 8, one=(0, 0), one_y=(2, 0), two=(2, 4))
        self.clash_is(True, layout, "one*", "two")
        self.clash_is(False, layout, "one*", "one")
        # The lit item meets the only call of the reserve's signal, by another fibre.
        chain = Net(("a", "b", 1, "p"), ("a", "b", 1, "q"), ("b", "c", 1, "p"))
        layout = layout_of(chain, 8, one=(0, 0), one_y=(1, 0), two=((1, 2), 0))
        self.clash_is(False, layout, "one*", "two")
        # It misses one of two calls.
        longer = Net(("a", "b", 1, "p"), ("b", "c", 1, "q"), ("a", "c", 1, "r"), ("c", "d", 1, "p"))
        layout = layout_of(longer, 8, one=((0, 1), 0), one_y=(2, 0), two=((2, 3), 4))
        self.clash_is(True, layout, "one*", "two")

    def test_a_reserve_and_the_twin_of_its_signal(self):
        net = cross()
        layout = layout_of(net, 8, one=(0, 0), one_x=(2, 5), one_y=(2, 5))
        self.clash_is(False, layout, "one*", "one+")
        self.clash_is(False, layout, "one*", "one")
        layout = layout_of(net, 8, one=(0, 0), one_x=(1, 5), one_y=(3, 5), two=(3, 2))
        self.clash_is(False, layout, "one+", "one*")
        self.clash_is(True, layout, "two", "one*")

    def test_two_reserves(self):
        net = cross()
        layout = layout_of(net, 8, one=(0, 0), one_y=(3, 0), two=(1, 0), two_y=(3, 1), six=(2, 0), six_y=(3, 0))
        self.clash_is(True, layout, "one*", "two*")
        self.clash_is(False, layout, "one*", "six*")
        self.clash_is(False, layout, "six*", "two*")
        apart = layout_of(net, 8, one=(0, 0), one_y=(3, 0), two=(1, 0), two_y=(2, 0))
        self.clash_is(False, apart, "one*", "two*")

    def test_a_reserve_of_a_signal_that_no_cut_strikes(self):
        layout = layout_of(cross(), 4, one=(0, 0), one_x=(2, 0), one_y=(3, 0), two=(3, 0), six=(0, 1), six_y=(3, 1))
        self.assertEqual(layout.calls("one"), ())
        for item in layout.spots:
            self.clash_is(False, layout, "one*", item)
        self.clash_is(True, layout, "six*", "two")

    def test_a_twin_and_reserves_that_share_slots(self):
        # No cut strikes the doubled signal one; wide is struck by the cut of w, which two misses.
        self.assertEqual(list(clashing(crowd())), [("one", "two"), ("two", "wide*")])
        net = cross()
        layout = layout_of(net, 8, one=(0, 0), one_x=(1, 1), one_y=(3, 6), six=(2, 6), six_y=(3, 6), two=(3, 0))
        self.assertEqual(list(clashing(layout)), [("one*", "two"), ("six*", "two")])

    def test_any_value_for_an_item(self):
        layout = crowd()
        for value in STRANGE + ["two*", "two+", "onee", "one*+", "*", ["one"], ("one", "two"), True]:
            with self.subTest(value=str(value)[:40]):
                for pair in ((value, "one"), ("one", value), (value, value), (value, "nix"), (value, None)):
                    with self.assertRaises(NoItem) as caught:
                        clash(layout, *pair)
                    self.assertIs(caught.exception.item, value)

    def test_names_of_arguments_and_a_signal_called_one(self):
        layout = crowd()
        self.assertIs(clash(layout=layout, one="two", other="one"), True)
        self.assertEqual(list(clashing(layout=layout)), list(clashing(layout)))
        self.assertEqual(occupants(layout=layout, index=1), occupants(layout, 1))


class ClashingTest(unittest.TestCase):
    def test_against_the_document(self):
        rng = generator(21)
        kinds = {}
        for _ in range(600):
            layout = random_layout(rng)
            net, spots = layout.net, layout.spots
            items = sorted(spots)
            told = [(one, other) for one in items for other in items
                    if one < other and oracle.clash(net, spots, one, other)]
            self.assertEqual(list(clashing(layout)), told)
            for one in items:
                for other in items:
                    self.assertIs(clash(layout, one, other), (min(one, other), max(one, other)) in told)
            for one, other in told:
                kind = one.strip("abcd") + " " + other.strip("abcd")
                kinds[kind] = kinds.get(kind, 0) + 1
        for kind in (" ", "* ", " *", "* *", " +", "+ "):
            self.assertGreater(kinds.get(kind, 0), 5, kind)

    def test_without_items_and_with_twelve_signals(self):
        self.assertEqual(list(clashing(Layout(line(), 1, {}, {}))), [])
        names = "abcdefghijkl"
        layout = Layout(line(), 12, {name: 1 for name in names}, {name: ((0,), at) for at, name in enumerate(names)})
        self.assertEqual(list(clashing(layout)), [(a, b) for a in names for b in names if a < b])

    def test_several_generators_by_turns(self):
        layout, other = crowd(), layout_of(cross(), 4, a=(0, 0), b=(0, 1), c=(0, 2))
        whole = list(clashing(other))
        self.assertEqual(whole, [("a", "b"), ("a", "c"), ("b", "c")])
        one, two = clashing(other), clashing(other)
        told = [next(one), next(two), next(one), next(clashing(layout)), next(two), next(one), next(two)]
        self.assertEqual(told, [whole[0], whole[0], whole[1], ("one", "two"), whole[1], whole[2], whole[2]])
        self.assertRaises(StopIteration, next, one)


class WishedItemTest(unittest.TestCase):
    """What is added changes no clash between others; a twin ends some of the reserve of its signal."""

    def others(self, before, after, item):
        told = {pair for pair in clashing(after) if item not in pair}
        return {pair for pair in clashing(before) if item not in pair}, told

    def additions(self, rng, layout, mark):
        """Layouts with one item of this kind more."""
        name = "new" if mark == "" else rng.choice(layout.signals or ("new",))
        if mark and name not in layout:
            return
        if mark == "+" and layout.doubled:
            return
        ends = ends_of(layout.net, layout[name][0]) if mark else rng.sample(layout.net.stations, 2)
        for route in routes_between(layout.net, *ends):
            try:
                more = layout.with_item(name + mark, route, rng.randrange(layout.band), rate=None if mark else 1)
            except InvalidLayout:
                continue
            yield name + mark, more

    def test_lights_and_reserves(self):
        rng = generator(22)
        for mark in ("", "*"):
            count = 0
            while count < 150:
                layout = random_layout(rng)
                for item, more in self.additions(rng, layout, mark):
                    before, after = self.others(layout, more, item)
                    self.assertEqual(before, after)
                    count += bool(before)

    def test_twins(self):
        rng = generator(23)
        ended = count = 0
        while count < 150 or ended < 20:
            layout = random_layout(rng)
            for item, more in self.additions(rng, layout, "+"):
                before, after = self.others(layout, more, item)
                self.assertLessEqual(after, before)
                for pair in before - after:
                    self.assertIn(item[:-1] + "*", pair)
                    ended += 1
                count += 1

    def test_a_twin_that_ends_a_clash(self):
        layout = layout_of(cross(), 8, one=(0, 0), one_y=(3, 0), two=(3, 4))
        self.assertEqual(list(clashing(layout)), [("one*", "two")])
        self.assertEqual(list(clashing(layout.with_item("one+", (2,), 0))), [])
        self.assertEqual(list(clashing(layout.with_item("one+", (1,), 0))), [("one*", "two")])


class OccupantsTest(unittest.TestCase):
    def test_slots_at_both_ends_of_the_band(self):
        layout = Layout(line((100, 2)), 6, {"a": 1, "b": 2}, {"a": ((0,), 0), "b": ((0,), 2)})
        self.assertEqual(occupants(layout, 0), (("a",), ("a",), ("b",), ("b",), ("b",), ("b",)))
        self.assertEqual(occupants(layout, 1), ((),) * 6)
        self.assertEqual(occupants(Layout(line(), 1, {}, {}), 2), ((),))
        self.assertEqual(occupants(Layout(line(), 1, {"a": 1}, {"a": ((2,), 0)}), 2), (("a",),))

    def test_reserves_that_share(self):
        layout = layout_of(cross(), 4, one=(0, 0), one_y=(3, 1), six=(2, 0), six_y=(3, 1), two=(3, 0))
        self.assertEqual(occupants(layout, 3), (("two",), ("one*", "six*"), (), ()))
        self.assertEqual(occupants(layout, 0), (("one",), (), (), ()))

    def test_against_the_document(self):
        rng = generator(24)
        for _ in range(200):
            layout = random_layout(rng)
            spots = layout.spots
            for index in range(len(layout.net)):
                held = {item: oracle.held(layout.net, layout.rates, spots, item) for item in spots}
                expected = tuple(
                    tuple(item for item in sorted(spots) if (index, slot) in held[item])
                    for slot in range(layout.band))
                self.assertEqual(occupants(layout, index), expected)

    def test_any_value_for_an_index(self):
        layout = crowd()
        for value in STRANGE + [6, 15, 16, "0", (0,), [0]]:
            if type(value) is int and 0 <= value < 6:
                continue
            with self.subTest(value=str(value)[:40]):
                with self.assertRaises(NoFibre) as caught:
                    occupants(layout, value)
                self.assertIs(caught.exception.index, value)
