"""Promises [6] and [8]: what a cut strikes, who is lit behind it, and the layout behind it."""

import unittest

from everlit.cuts import after_cut, cut, cut_table, struck, worst_cuts
from everlit.errors import NoDuct
from everlit.layouts import Layout
from everlit.nets import Net
from tests import oracle
from tests.samples import STRANGE, crowd, generator, line
from tests.test_layout_methods import random_layout
from tests.test_rooms import crowded
from tests.test_turned import small


def meets(layout, item, duct):
    return duct in oracle.ducts_of(layout.net, layout[item][0])


def after_cut_by_document(layout, duct):
    """The layout behind a cut and the dropped signals, word by word."""
    rates, spots, later = {}, {}, []
    for name in layout.signals:
        lit = [item for item in (name, name + "+") if item in layout]
        reserve = name + "*"
        if all(meets(layout, item, duct) for item in lit):
            if reserve in layout:
                rates[name] = layout.rates[name]
                spots[name] = layout[reserve]
            continue
        rates[name] = layout.rates[name]
        left = [item for item in lit if not meets(layout, item, duct)]
        for item, told in zip((name, name + "+"), left):
            spots[item] = layout[told]
        if reserve in layout:
            later.append(name)
    dropped = []
    for name in later:
        more = {**spots, name + "*": layout[name + "*"]}
        fault = oracle.fault(layout.net, layout.band, rates, more)
        if meets(layout, name + "*", duct) or fault is not None:
            dropped.append(name)
        else:
            spots = more
    return (Layout(layout.net, layout.band, rates, spots), tuple(dropped))


class CutTest(unittest.TestCase):
    def test_the_crowd(self):
        layout = crowd()
        self.assertEqual(struck(layout, "x"), ("two",))
        self.assertEqual(struck(layout=layout, duct="w"), ("wide",))
        self.assertEqual(struck(layout, "v"), ())
        self.assertEqual(cut(layout, "x"), (("one+", "wide"), (), ("two",)))
        self.assertEqual(cut(layout, "w"), (("one", "one+", "two", "wide*"), ("wide",), ()))
        self.assertEqual(cut(layout=layout, duct="y"), (("one", "two", "wide"), (), ()))
        table = list(cut_table(layout))
        self.assertEqual(table, [
            ("v", (), ()), ("w", ("wide",), ()), ("x", (), ("two",)), ("y", (), ()), ("z", (), ("two",))])
        self.assertEqual(worst_cuts(layout), ("x", "z"))

    def test_a_duct_with_several_fibres(self):
        net = Net(("a", "b", 1, "p"), ("a", "b", 1, "p"), ("b", "c", 1, "q"), ("b", "c", 1, "p"))
        layout = Layout(net, 4, {"a": 1, "b": 1, "c": 1}, {
            "a": ((0,), 0), "a+": ((1,), 0), "b": ((0, 2), 1), "c": ((2,), 0)})
        # Light and twin meet the same duct by different fibres.
        self.assertEqual(struck(layout, "p"), ("a", "b"))
        self.assertEqual(cut(layout, "p"), (("c",), (), ("a", "b")))
        self.assertEqual(worst_cuts(layout), ("p", "q"))
        self.assertEqual(after_cut(layout, "p"), (layout.without("a", "b"), ()))
        apart = layout.with_item("c", (3,), 0)
        self.assertEqual(worst_cuts(apart), ("p",))

    def test_signals_that_no_cut_strikes(self):
        layout = Layout(line(), 4, {"a": 1}, {"a": ((0,), 0), "a+": ((1,), 0), "a*": ((0,), 0)})
        self.assertEqual(list(cut_table(layout)), [("p", (), ()), ("q", (), ()), ("r", (), ())])
        self.assertEqual(worst_cuts(layout), ())
        self.assertEqual(cut(layout, "p"), (("a+",), (), ()))
        # The light goes, and the reserve with it, as it lies in the same duct.
        after = Layout(line(), 4, {"a": 1}, {"a": ((1,), 0)})
        self.assertEqual(after_cut(layout, "p"), (after, ("a",)))
        after = Layout(line(), 4, {"a": 1}, {"a": ((0,), 0)})
        self.assertEqual(after_cut(layout, "q"), (after, ("a",)))
        self.assertEqual(after_cut(layout, "r"), (layout, ()))

    def test_an_empty_layout(self):
        layout = Layout(line(), 1, {}, {})
        self.assertEqual((struck(layout, "p"), cut(layout, "p"), worst_cuts(layout)), ((), ((), (), ()), ()))
        self.assertEqual(after_cut(layout, "p"), (layout, ()))
        self.assertEqual(len(list(cut_table(layout))), 3)

    def test_no_duct(self):
        layout = crowd()
        for value in STRANGE + ["p", "X", "x ", ("x",), ["x"], "one"]:
            for call in (struck, cut, after_cut):
                with self.assertRaises(NoDuct) as caught:
                    call(layout, value)
                self.assertIs(caught.exception.name, value)

    def test_tables_by_turns(self):
        one, other = cut_table(crowd()), cut_table(small())
        self.assertEqual([next(one), next(other), next(one)][1], ("p", ("b",), ("a",)))

    def test_random_layouts(self):
        rng = generator(100)
        for _ in range(200):
            layout = random_layout(rng)
            rows = []
            for duct in layout.net.ducts:
                names = tuple(name for name in layout.signals if duct in oracle.calls(layout.net, layout.spots, name))
                self.assertEqual(struck(layout, duct), names)
                switched = tuple(name for name in names if name + "*" in layout)
                dark = tuple(name for name in names if name + "*" not in layout)
                lit = [item for item in layout.spots if oracle.lit(item) and not meets(layout, item, duct)]
                lit += [name + "*" for name in switched]
                self.assertEqual(cut(layout, duct), (tuple(sorted(lit)), switched, dark))
                rows.append((duct, switched, dark))
                self.fact_holds(layout, lit)
            self.assertEqual(list(cut_table(layout)), rows)
            most = max(len(row[2]) for row in rows)
            worst = tuple(row[0] for row in rows if len(row[2]) == most) if most else ()
            self.assertEqual(worst_cuts(layout), worst)

    def fact_holds(self, layout, lit):
        """What is lit behind a cut does not overlap [8]."""
        held = [slot for item in lit for slot in oracle.held(layout.net, layout.rates, layout.spots, item)]
        self.assertEqual(len(held), len(set(held)))


class AfterCutTest(unittest.TestCase):
    def test_switched_signals(self):
        layout = small()
        after, dropped = after_cut(layout, "p")
        self.assertEqual(after, Layout(line(), 8, {"b": 2}, {"b": ((1,), 3)}))
        self.assertEqual(dropped, ())
        self.assertEqual(layout, small())
        after, dropped = after_cut(layout=layout, duct="q")
        self.assertEqual((after, dropped), (layout.without("b*"), ("b",)))
        self.assertEqual(after_cut(layout, "r"), (layout, ()))

    def test_a_doubled_signal(self):
        net = Net(*[("a", "b", 1, duct) for duct in "pqrs"])
        rates = {"a": 1, "b": 1}
        spots = {"a": ((0,), 0), "a+": ((1,), 1), "a*": ((2,), 2), "b": ((3,), 0), "b*": ((2,), 2)}
        layout = Layout(net, 4, rates, spots)
        # None of its lit items is cut, and as it has no calls its reserve clashes with nothing.
        self.assertEqual(after_cut(layout, "s"), (Layout(net, 4, rates, {
            "a": ((0,), 0), "a+": ((1,), 1), "a*": ((2,), 2), "b": ((2,), 2)}), ()))
        # One of them is cut, and its calls grow.
        self.assertEqual(after_cut(layout, "p"), (Layout(net, 4, rates, {
            "a": ((1,), 1), "a*": ((2,), 2), "b": ((3,), 0), "b*": ((2,), 2)}), ()))
        self.assertEqual(after_cut(layout, "q")[0]["a"], ((0,), 0))
        shared = layout.with_item("b", (1,), 0)
        # Behind the cut of the light the calls of a are those of b, so only one reserve is kept.
        after, dropped = after_cut(shared, "p")
        self.assertEqual((sorted(after.spots), dropped), (["a", "a*", "b"], ("b",)))
        after, dropped = after_cut(shared, "r")
        self.assertEqual((after, dropped), (shared.without("a*", "b*"), ("a", "b")))

    def test_both_lit_items_cut(self):
        net = Net(("a", "b", 1, "p"), ("a", "b", 1, "p"), ("a", "b", 1, "q"))
        spots = {"a": ((0,), 0), "a+": ((1,), 1), "a*": ((2,), 2)}
        layout = Layout(net, 4, {"a": 1}, spots)
        self.assertEqual(after_cut(layout, "p"), (Layout(net, 4, {"a": 1}, {"a": ((2,), 2)}), ()))
        bare = layout.without("a*")
        self.assertEqual(after_cut(bare, "p"), (Layout(net, 4, {}, {}), ()))

    def test_reserves_that_shared_slots(self):
        layout = crowded_pair()
        after, dropped = after_cut(layout, "p")
        # The reserve of b does not share slots with what is a light now.
        self.assertEqual((after.spots, dropped), ({"a": ((2,), 0), "b": ((1,), 0)}, ("b",)))
        after, dropped = after_cut(layout, "q")
        self.assertEqual((after.spots, dropped), ({"a": ((0,), 0), "b": ((2,), 0)}, ("a",)))

    def test_twelve_signals(self):
        layout = crowded()
        after, dropped = after_cut(layout, "p")
        self.assertEqual((len(after), dropped), (12, ()))
        self.assertEqual({after[name][0] for name in after.signals}, {(1,)})
        self.assertEqual(after_cut(layout, "q"), (layout.without(*[name + "*" for name in layout.signals]),
                                                  layout.signals))

    def test_against_the_document(self):
        rng = generator(101)
        kinds = {"doubled": 0, "dropped": 0, "kept": 0, "switched": 0, "dark": 0}
        for _ in range(400):
            layout = random_layout(rng)
            for duct in layout.net.ducts:
                after, dropped = after_cut(layout, duct)
                self.assertEqual((after, dropped), after_cut_by_document(layout, duct))
                _, switched, dark = cut(layout, duct)
                kinds["doubled"] += layout.doubled is not None and after.doubled is None
                kinds["dropped"] += bool(dropped)
                kinds["kept"] += any(item.endswith("*") for item in after.spots)
                kinds["switched"] += bool(switched)
                kinds["dark"] += bool(dark)
                self.assertEqual(after.signals, tuple(sorted(set(layout.signals) - set(dark))))
        self.assertGreater(min(kinds.values()), 20)


def crowded_pair():
    """Two signals whose reserves share their slots."""
    spots = {"a": ((0,), 0), "a*": ((2,), 0), "b": ((1,), 0), "b*": ((2,), 0)}
    return Layout(line(), 2, {"a": 1, "b": 1}, spots)
