"""Promises [2], [9], [10] and [20]: orders, their rings and chains, and the order of a layout."""

import itertools
import unittest

from everlit.chaincheck import chain_weight, shows_ring
from everlit.errors import Circular, NoItem, Unlike
from everlit.layouts import Layout
from everlit.nets import Net
from everlit.orders import Order, order_of
from tests import oracle
from tests.samples import STRANGE, crowd, generator, line
from tests.test_layout_methods import random_layout


def diamond():
    """a is below b and c, both are below d; e is alone. b is the wide one."""
    widths = {"a": 1, "b": 5, "c": 2, "d": 3, "e": 8}
    return Order(widths, [("a", "b"), ("a", "c"), ("b", "d"), ("c", "d")])


def random_order(rng, most=5, chance=0.3):
    """An order with or without rings, with pairs told several times and in any order."""
    items = rng.sample("abcdefg", rng.randint(0, most))
    widths = {item: rng.choice([1, 1, 2, 3, 128]) for item in items}
    upwards = rng.random() < 0.6
    pairs = [(one, other) for one in items for other in items
             if one != other and (one < other or not upwards) and rng.random() < chance]
    pairs += rng.choices(pairs, k=2) if pairs else []
    rng.shuffle(pairs)
    return widths, pairs


class RaisingTest(unittest.TestCase):
    def raised(self, kind, call):
        with self.assertRaises(kind) as caught:
            call()
        return caught.exception

    def missing(self, item, call):
        self.assertIs(self.raised(NoItem, call).item, item)


class OrderTest(RaisingTest):
    def test_properties(self):
        order = diamond()
        self.assertEqual(order.widths, {"a": 1, "b": 5, "c": 2, "d": 3, "e": 8})
        self.assertEqual(order.members, ("a", "b", "c", "d", "e"))
        self.assertEqual(order.pairs, (("a", "b"), ("a", "c"), ("b", "d"), ("c", "d")))
        self.assertIs(order.circle, None)
        self.assertEqual((order.weight, order.chain), (9, ("a", "b", "d")))
        self.assertEqual((len(order), repr(order)), (4, "Order(5 items, 4 pairs)"))
        self.assertEqual(diamond().without("b").weight, 8)
        self.assertEqual(diamond().without("b").chain, ("e",))

    def test_without_items(self):
        for order in (Order({}), Order({}, []), Order({}, ()), Order(widths={}, pairs=())):
            self.assertEqual((order.widths, order.members, order.pairs), ({}, (), ()))
            self.assertEqual((order.circle, order.weight, order.chain), (None, 0, ()))
            self.assertEqual((len(order), repr(order)), (0, "Order(0 items, 0 pairs)"))
            self.assertIs(order.fits(0), True)
            self.assertIs(order.is_part_of(diamond()), True)
            self.assertEqual(order | diamond(), diamond())
            self.assertEqual(diamond() | order, diamond())
            self.assertEqual(order.without(), order)
            self.missing("a", lambda: order.low("a"))

    def test_one_item(self):
        for width in (1, 128):
            order = Order({"x y": width})
            self.assertEqual((order.members, order.pairs, order.weight, order.chain), (("x y",), (), width, ("x y",)))
            self.assertEqual((order.low("x y"), order.high("x y", width), order.high("x y", 0)), (0, 0, -width))
            self.assertEqual((order.below("x y"), order.above("x y")), ((), ()))
            self.assertEqual([order.fits(band) for band in (0, width - 1, width)], [False, False, True])
            self.assertEqual(repr(order), "Order(1 items, 0 pairs)")

    def test_any_strings_are_items(self):
        order = Order({"": 1, " ": 128, "a\nb": 2, "a" * 6000: 3}, [("", "a" * 6000), (" ", "")])
        self.assertEqual(order.members, ("", " ", "a\nb", "a" * 6000))
        self.assertEqual((order.weight, order.chain), (132, (" ", "", "a" * 6000)))
        self.assertEqual(order.below("a" * 6000), ("", " "))

    def test_a_pair_told_twice(self):
        order = Order({"b": 1, "a": 2}, [("b", "a"), ("b", "a")])
        self.assertEqual((order.pairs, len(order), order.weight), ((("b", "a"),), 1, 3))
        self.assertEqual(repr(order), "Order(2 items, 1 pairs)")
        self.assertEqual(order, Order({"a": 2, "b": 1}, (("b", "a"),)))

    def test_pairs_with_an_item_that_has_no_width(self):
        widths = {"a": 1, "b": 1}
        self.missing("c", lambda: Order(widths, [("a", "b"), ("c", "d"), ("e", "a")]))
        self.missing("d", lambda: Order(widths, [("a", "b"), ("b", "d"), ("c", "a")]))
        self.missing("d", lambda: Order(widths, (("d", "a"),)))
        self.missing("a", lambda: Order({}, [("a", "b")]))
        for value in STRANGE:
            if value in ("a",):
                continue
            with self.subTest(value=str(value)[:40]):
                self.missing(value, lambda: Order(widths, [("a", "b"), (value, "b")]))
                self.missing(value, lambda: Order(widths, [("a", value), ("c", "d")]))

    def test_low_and_high(self):
        order = diamond()
        self.assertEqual({item: order.low(item) for item in order.members}, {"a": 0, "b": 1, "c": 1, "d": 6, "e": 0})
        self.assertEqual({item: order.high(item, 9) for item in order.members},
                         {"a": 0, "b": 1, "c": 4, "d": 6, "e": 1})
        self.assertEqual(order.high(item="d", band=0), -3)
        self.assertEqual(order.low(item="d"), 6)
        self.assertEqual(order.high("a", 10 ** 59), 10 ** 59 - 9)

    def test_below_and_above(self):
        order = diamond()
        self.assertEqual((order.below("d"), order.above("d")), (("a", "b", "c"), ()))
        self.assertEqual((order.below("b"), order.above("b")), (("a",), ("d",)))
        self.assertEqual((order.below(item="e"), order.above(item="a")), ((), ("b", "c", "d")))

    def test_fits(self):
        order = diamond()
        self.assertEqual([order.fits(band) for band in (0, 8, 9, 10, 10 ** 59)], [False, False, True, True, True])
        self.assertIs(order.fits(band=9), True)
        self.assertIs(Order({"a": 1}).fits(0), False)

    def test_a_ring_of_two(self):
        order = Order({"a": 1, "b": 1, "c": 1}, [("a", "b"), ("b", "a"), ("b", "c")])
        self.assertIn(order.circle, (("a", "b"), ("b", "a")))
        self.assertEqual(order.below("a"), ("a", "b"))
        self.assertEqual(order.above("a"), ("a", "b", "c"))
        self.assertEqual(order.below("b"), ("a", "b"))
        self.assertEqual((order.below("c"), order.above("c")), (("a", "b"), ()))
        self.assertEqual(order.pairs, (("a", "b"), ("b", "a"), ("b", "c")))
        self.assertIs(order.fits(10 ** 59), False)
        self.assertIs(order.fits(0), False)

    def test_what_a_ring_forbids(self):
        order = Order({"a": 1, "b": 1, "c": 1, "z": 1}, [("a", "b"), ("b", "c"), ("c", "a")])
        calls = [
            lambda: order.weight, lambda: order.chain, lambda: order.low("a"), lambda: order.low("z"),
            lambda: order.high("z", 9), lambda: order.high("b", 0),
        ]
        for call in calls:
            ring = self.raised(Circular, call).ring
            self.assertIn(ring, (("a", "b", "c"), ("b", "c", "a"), ("c", "a", "b")))
        for value in STRANGE + ["y"]:
            if value in ("a",):
                continue
            for call in (order.low, lambda item: order.high(item, 9), order.below, order.above, order.without):
                if call == order.without and isinstance(value, list):
                    continue
                self.missing(value, lambda: call(value))
        self.assertEqual(order.without("c").weight, 2)

    def test_a_ring_of_all_items(self):
        names = [f"n{at}" for at in range(300)]
        pairs = list(zip(names, names[1:] + names[:1]))
        order = Order({name: 2 for name in names}, pairs)
        self.assertTrue(oracle.is_ring(pairs, order.circle))
        self.assertEqual(len(order.circle), 300)
        self.assertEqual(order.below("n7"), tuple(sorted(names)))
        self.assertEqual(order.above("n7"), tuple(sorted(names)))
        line_of_all = Order({name: 2 for name in names}, pairs[:-1])
        self.assertEqual((line_of_all.chain, line_of_all.weight), (tuple(names), 600))
        self.assertEqual(line_of_all.low("n299"), 598)

    def test_a_ring_beside_a_long_way(self):
        pairs = [("a", "b"), ("b", "c"), ("c", "d"), ("d", "c"), ("d", "e"), ("e", "f")]
        order = Order({name: 1 for name in "abcdef"}, pairs)
        self.assertIn(order.circle, (("c", "d"), ("d", "c")))
        self.assertEqual(order.below("c"), ("a", "b", "c", "d"))
        self.assertEqual(order.below("b"), ("a",))
        self.assertEqual(order.above("e"), ("f",))

    def test_any_value_in_an_order(self):
        order = diamond()
        for value in STRANGE + [["a", "b"], ("b", "a"), ("a", "b", "d"), ("a", "d"), ("a",), "ab", ("a", 1),
                                ("a", ["b"]), (["a"], "b"), ("a", "e"), ("a", None), {"a": "b"}, (("a", "b"),)]:
            with self.subTest(value=str(value)[:40]):
                self.assertIs(value in order, False)
        for pair in order.pairs:
            self.assertIs(pair in order, True)
        self.assertIs(("a", "b") in Order({"a": 1, "b": 1}), False)

    def test_any_value_for_an_item(self):
        order = diamond()
        for value in STRANGE + ["f", "A", "a ", ("a", "b")]:
            if value in ("a",):
                continue
            with self.subTest(value=str(value)[:40]):
                for call in (order.low, lambda item: order.high(item, 9), order.below, order.above):
                    self.missing(value, lambda: call(value))
                if not isinstance(value, list):
                    self.missing(value, lambda: order.without("a", value, "nix"))
                self.missing(value, lambda: order.without(["a", value], "nix"))


class ChangedOrderTest(RaisingTest):
    def test_either_order(self):
        one = Order({"a": 1, "b": 2}, [("a", "b")])
        other = Order({"b": 2, "c": 3}, [("c", "b"), ("b", "c")])
        both = one | other
        self.assertEqual(both.widths, {"a": 1, "b": 2, "c": 3})
        self.assertEqual(both.pairs, (("a", "b"), ("b", "c"), ("c", "b")))
        self.assertIn(both.circle, (("b", "c"), ("c", "b")))
        self.assertEqual((repr(one), repr(other)), ("Order(2 items, 1 pairs)", "Order(2 items, 2 pairs)"))
        self.assertIs(one.is_part_of(both), True)
        self.assertIs(other.is_part_of(both), True)
        self.assertEqual(one | one, one)

    def test_laying_orders_together_makes_rings(self):
        widths = {"a": 1, "b": 1}
        up, down = Order(widths, [("a", "b")]), Order(widths, [("b", "a")])
        both = up | down
        self.assertEqual(both.pairs, (("a", "b"), ("b", "a")))
        self.assertIs(both.fits(64), False)
        self.assertRaises(Circular, lambda: both.weight)
        self.assertEqual(both | up, both)
        longer = Order({"a": 1, "b": 1, "c": 1}, [("b", "c")]) | Order({"c": 1, "a": 1}, [("c", "a")])
        self.assertEqual(longer.weight, 3)
        self.assertEqual(len((longer | up).circle), 3)

    def test_either_order_with_other_widths(self):
        one = Order({"a": 1, "b": 2, "c": 3, "d": 4})
        other = Order({"d": 9, "c": 9, "a": 1, "e": 1})
        self.assertEqual(self.raised(Unlike, lambda: one | other).item, "c")
        self.assertEqual(self.raised(Unlike, lambda: other | one).item, "c")
        ring = Order({"a": 2, "z": 1}, [("a", "z"), ("z", "a")])
        self.assertEqual(self.raised(Unlike, lambda: ring | one).item, "a")

    def test_without(self):
        order = diamond()
        self.assertEqual(order.without("a", "e"), Order({"b": 5, "c": 2, "d": 3}, [("b", "d"), ("c", "d")]))
        self.assertEqual(order.without(["a", "e"]), order.without("a", "e"))
        self.assertEqual(order.without("a", ["e", "a"], []), order.without("e", "a"))
        self.assertEqual(order.without("a", "b", "c", "d", "e"), Order({}))
        self.assertEqual(order.without(), order)
        self.assertEqual(order, diamond())
        self.missing("f", lambda: order.without("a", "f", "g"))
        self.missing("g", lambda: order.without(["a", "g"], "f"))
        inner = ["a"]
        self.missing(inner, lambda: order.without([inner]))

    def test_with_item(self):
        order = diamond()
        more = order.with_item("f", 7, below=["d", "e"], above=("a",))
        self.assertEqual(more.widths, {**order.widths, "f": 7})
        self.assertEqual(set(more.pairs), {*order.pairs, ("d", "f"), ("e", "f"), ("f", "a")})
        self.assertEqual(len(more.circle), 4)
        self.assertEqual(order, diamond())
        self.assertEqual(order.with_item("f", 128).pairs, order.pairs)
        self.assertEqual(order.with_item(item="e", width=8), order)
        self.assertEqual(order.with_item("e", 8, below=("d",)).weight, 17)
        self.assertEqual(order.with_item("a", 1, above=["b", "e"]).above("a"), ("b", "c", "d", "e"))
        self.assertEqual(Order({}).with_item("a", 1), Order({"a": 1}))
        both = order.with_item("f", 1, below=["a", "a"], above=["a"])
        self.assertEqual(len(both), 6)
        self.assertRaises(TypeError, order.with_item, "f", 1, ["a"])

    def test_with_item_wrongly(self):
        order = diamond()
        self.assertEqual(self.raised(Unlike, lambda: order.with_item("a", 2, below=["nix"])).item, "a")
        self.assertEqual(self.raised(Unlike, lambda: order.with_item("a", True)).item, "a")
        self.missing("y", lambda: order.with_item("f", 1, below=["a", "y", "z"], above=["x"]))
        self.missing("x", lambda: order.with_item("f", 1, below=["a"], above=["b", "x", "w"]))
        self.missing("f", lambda: order.with_item("f", 1, below=["f"]))
        self.missing("x", lambda: order.with_item("a", 1, above=["x"]))
        for value in STRANGE:
            if value in ("a",):
                continue
            with self.subTest(value=str(value)[:40]):
                self.missing(value, lambda: order.with_item("f", 1, below=["b", value], above=["x"]))
                self.missing(value, lambda: order.with_item("f", 1, below=("b",), above=(value, "x")))
        self.assertEqual(order, diamond())

    def test_equality(self):
        order = diamond()
        same = Order(dict(reversed(order.widths.items())), tuple(reversed(order.pairs)))
        self.assertTrue(order == same)
        self.assertFalse(order != same)
        others = [order.without("e"), order.with_item("f", 1), Order(order.widths, order.pairs[1:]),
                  Order({**order.widths, "e": 9}, order.pairs), order.with_item("e", 8, below=["a"]), Order({})]
        for other in others + STRANGE + [order.pairs, order.widths, repr(order)]:
            self.assertIs(order == other, False)
            self.assertIs(order != other, True)

    def test_is_part_of(self):
        order = diamond()
        parts = [order, order.without("a"), order.without("b", "d"), Order(order.widths, order.pairs[:2]), Order({})]
        for part in parts:
            self.assertIs(part.is_part_of(order), True)
            self.assertIs(order.is_part_of(part), part == order)
        for other in (Order({"a": 2}), Order({"f": 1}), order.with_item("e", 8, below=["a"]),
                      Order({"a": 1, "b": 5}, [("b", "a")])):
            self.assertIs(other.is_part_of(order), False)
        self.assertIs(order.is_part_of(other=order), True)

    def test_an_order_never_changes(self):
        widths, pairs = {"b": 1, "a": 2}, [("b", "a")]
        order = Order(widths, pairs)
        self.assertEqual((list(widths), pairs), (["b", "a"], [("b", "a")]))
        widths["a"] = 9
        widths["c"] = 1
        pairs.append(("a", "b"))
        self.assertEqual((order.widths, order.pairs, order.weight), ({"a": 2, "b": 1}, (("b", "a"),), 3))
        order.widths["a"] = 9
        order.widths.clear()
        self.assertEqual(order.widths, {"a": 2, "b": 1})
        self.assertEqual(list(order.widths), ["a", "b"])
        below, gone = ["a"], ["a"]
        order.with_item("c", 1, below=below, above=below)
        order.without(gone)
        self.assertEqual((below, gone, order.pairs), (["a"], ["a"], (("b", "a"),)))
        for call in (lambda: order.without("a", "z"), lambda: order.with_item("a", 9), lambda: order.low("z")):
            self.assertRaises((NoItem, Unlike), call)
            self.assertEqual(order, Order({"a": 2, "b": 1}, [("b", "a")]))


class AgainstTheDocumentTest(unittest.TestCase):
    def test_orders_without_a_ring(self):
        rng = generator(31)
        count = 0
        while count < 500:
            widths, pairs = random_order(rng, 6)
            if any(one == other for one, other in oracle.closure(pairs)):
                continue
            count += 1
            order = Order(widths, pairs)
            chains = oracle.chains(widths, pairs)
            weight = max([oracle.weight(widths, chain) for chain in chains], default=0)
            self.assertIs(order.circle, None)
            self.assertEqual(order.weight, weight)
            self.assertEqual(oracle.weight(widths, order.chain), weight)
            self.assertTrue(order.chain in chains or not widths)
            self.assertEqual([order.fits(band) for band in (0, weight, weight + 1)], [not widths, True, True])
            if weight:
                self.assertIs(order.fits(weight - 1), False)
            for item in widths:
                ends = [oracle.weight(widths, chain[:-1]) for chain in chains if chain[-1] == item]
                self.assertEqual(order.low(item), max(ends))
                heads = [oracle.weight(widths, chain) for chain in chains if chain[0] == item]
                self.assertEqual(order.high(item, 200), 200 - max(heads))

    def test_rings(self):
        rng = generator(32)
        count = 0
        while count < 300:
            widths, pairs = random_order(rng, 5, 0.4)
            order = Order(widths, pairs)
            whole = oracle.closure(pairs)
            ring = order.circle
            circular = any(one == other for one, other in whole)
            self.assertIs(ring is not None, circular)
            for item in widths:
                self.assertEqual(order.below(item), tuple(sorted(a for a, b in whole if b == item)))
                self.assertEqual(order.above(item), tuple(sorted(b for a, b in whole if a == item)))
            if circular:
                count += 1
                self.assertTrue(oracle.is_ring(pairs, ring))
                self.assertIs(order.fits(10 ** 9), False)
                self.assertEqual(Order(widths, sorted(pairs)).circle, ring)

    def test_the_same_answer_for_equal_orders(self):
        rng = generator(33)
        for _ in range(200):
            widths, pairs = random_order(rng, 6)
            order = Order(widths, pairs)
            again = Order({item: widths[item] for item in rng.sample(sorted(widths), len(widths))},
                          tuple(rng.sample(pairs, len(pairs))))
            self.assertEqual(again, order)
            self.assertEqual((again.circle, again.pairs, again.members), (order.circle, order.pairs, order.members))
            if order.circle is None:
                self.assertEqual(again.chain, order.chain)

    def test_changed_orders(self):
        rng = generator(34)
        for _ in range(300):
            widths, pairs = random_order(rng)
            more, others = random_order(rng)
            more = {item: widths.get(item, more[item]) for item in more}
            both = Order(widths, pairs) | Order(more, others)
            self.assertEqual(both.widths, {**widths, **more})
            self.assertEqual(both.pairs, tuple(sorted(set(pairs) | set(others))))
            gone = rng.sample(both.members, rng.randint(0, len(both.members)))
            less = both.without(*gone)
            self.assertEqual(less.members, tuple(item for item in both.members if item not in gone))
            self.assertEqual(less.pairs, tuple(pair for pair in both.pairs if not set(pair) & set(gone)))
            self.assertIs(less.is_part_of(both), True)
            self.assertIs(both.is_part_of(less), not gone)


class OrderOfTest(unittest.TestCase):
    def test_a_layout_without_items(self):
        self.assertEqual(order_of(Layout(line(), 1, {}, {})), Order({}))

    def test_the_crowd(self):
        order = order_of(crowd())
        self.assertEqual(order.widths, {"one": 2, "one*": 4, "one+": 2, "two": 1, "wide": 3, "wide*": 6})
        self.assertEqual(order.pairs, (("one", "two"), ("two", "wide*")))
        self.assertEqual(order_of(layout=crowd().mirrored()).pairs, (("two", "one"), ("wide*", "two")))

    def test_against_the_document(self):
        rng = generator(35)
        for _ in range(400):
            layout = random_layout(rng)
            order = order_of(layout)
            self.assertEqual(order.pairs, tuple(oracle.order_pairs(layout.net, layout.spots)))
            self.assertEqual(order.widths, {item: layout.width(item) for item in layout.spots})
            self.assertIs(order.circle, None)
            self.assertIs(order.fits(layout.band), True)

    def test_twelve_signals(self):
        net = Net(*[("a", "b", 1, name) for name in "pqrs"], reach=[(1, 4)])
        names = "abcdefghijkl"
        spots = {name: ((0,), 4 * at) for at, name in enumerate(names)}
        spots.update({name + "*": ((1 + at // 4,), 4 * (at % 4)) for at, name in enumerate(names)})
        layout = Layout(net, 64, {name: 1 for name in names}, spots)
        order = order_of(layout)
        self.assertEqual((len(order.members), order.weight, order.chain), (24, 48, tuple(names)))
        self.assertEqual(len(order), 66 + 3 * 6)
        self.assertEqual([order.low(name) for name in names], list(range(0, 48, 4)))
        self.assertEqual([order.high(name, 64) for name in names], list(range(16, 64, 4)))
        self.assertEqual(order.below("e*"), ())
        self.assertEqual(order.below("f*"), ("e*",))


class CheckTest(unittest.TestCase):
    def test_chains(self):
        order = diamond()
        for chain, weight in ((("a",), 1), (("e",), 8), (("a", "b"), 6), (("a", "c", "d"), 6), (("a", "b", "d"), 9),
                              (("c", "d"), 5)):
            self.assertEqual(chain_weight(order, chain), weight)
        self.assertEqual(chain_weight(order=order, value=("d",)), 3)
        widest = Order({"a": 128, "b": 1}, [("b", "a")])
        self.assertEqual(chain_weight(widest, ("b", "a")), 129)

    def test_what_is_no_chain(self):
        order = diamond()
        values = STRANGE + [
            ["a", "b"], ["a"], "a", "ab", ("b", "a"), ("a", "d"), ("a", "b", "c"), ("a", "a"), ("a", "b", "b"),
            ("f",), ("a", "f"), ("f", "a"), ("a", True), (("a", "b"),), ("a", ["b"]), (["a"],), ({},), {"a": "b"},
            ("a", "b", None), (None, "a", "b"), ("a", "e"), ("e", "e"), [("a", "b")], ("",),
        ]
        for value in values:
            if value == ("a",):
                continue
            with self.subTest(value=str(value)[:40]):
                self.assertIs(chain_weight(order, value), None)
        self.assertIs(chain_weight(Order({}), ()), None)
        self.assertIs(chain_weight(Order({}), ("a",)), None)

    def test_a_chain_that_runs_round_a_ring(self):
        order = Order({"a": 1, "b": 2}, [("a", "b"), ("b", "a")])
        self.assertEqual(chain_weight(order, ("a", "b", "a")), 4)
        self.assertEqual(chain_weight(order, ("a", "b") * 100000), 300000)
        self.assertIs(chain_weight(order, ("a", "a")), None)

    def test_rings(self):
        order = Order({name: 1 for name in "abcd"}, [("a", "b"), ("b", "a"), ("b", "c"), ("c", "a"), ("c", "d")])
        for ring in (("a", "b"), ("b", "a"), ("a", "b", "c"), ("b", "c", "a"), ("c", "a", "b")):
            self.assertIs(shows_ring(order, ring), True)
        self.assertIs(shows_ring(order=order, value=("a", "b")), True)
        values = STRANGE + [
            ["a", "b"], ("a",), ("a", "c"), ("a", "b", "a"), ("a", "b", "a", "b"), ("b", "c"), ("c", "d"), ("a", "a"),
            ("a", "c", "b"), ("a", "b", "c", "a"), ("a", "b", "c", "d"), ("e", "e"), ("a", 1), (["a"], ["b"]),
            ("a", ["b"]), "ab", {"a": "b", "b": "a"}, (("a", "b"), ("b", "a")), ("a", "b") * 50000, (True, 1),
        ]
        for value in values:
            with self.subTest(value=str(value)[:40]):
                self.assertIs(shows_ring(order, value), False)
        self.assertIs(shows_ring(Order({}), ()), False)
        self.assertIs(shows_ring(Order({"a": 1}), ("a",)), False)

    def test_against_the_document(self):
        rng = generator(36)
        seen = {True: 0, False: 0}
        for _ in range(80):
            widths, pairs = random_order(rng, 4, 0.5)
            order = Order(widths, pairs)
            for many in range(5):
                for items in itertools.permutations(widths, many):
                    self.assertIs(shows_ring(order, items), oracle.is_ring(pairs, items))
                    seen[oracle.is_ring(pairs, items)] += 1
                    linked = all(pair in pairs for pair in zip(items, items[1:]))
                    expected = oracle.weight(widths, items) if items and linked else None
                    self.assertEqual(chain_weight(order, items), expected)
        self.assertGreater(min(seen.values()), 50)
