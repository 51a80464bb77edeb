"""Promises [5], [6], [7] and [8]: what a layout is, and the words of layout_fault."""

import unittest

from everlit.errors import InvalidBand, InvalidLayout
from everlit.layouts import Layout, layout_fault
from everlit.nets import Net
from everlit.routes import routes_between
from tests import oracle
from tests.samples import STRANGE, crowd, generator, ladder, line, random_net


class FaultTest(unittest.TestCase):
    def fault(self, expected, net, band, rates, spots):
        """Checks layout_fault and the class with the same arguments."""
        self.assertEqual(layout_fault(net, band, rates, spots), expected)
        if expected is None:
            layout = Layout(net, band, rates, spots)
            self.assertEqual((layout.band, layout.rates, layout.spots), (band, rates, spots))
            return
        with self.assertRaises(InvalidBand if expected[0] == "band" else InvalidLayout) as caught:
            Layout(net, band, rates, spots)
        if expected[0] == "band":
            self.assertIs(caught.exception.value, band)
        else:
            self.assertEqual((caught.exception.word, caught.exception.item), expected)

    def test_bands(self):
        for band in (1, 2, 63, 64):
            self.fault(None, line(), band, {}, {})
        for band in STRANGE + [0, -1, 65, "8", (8,), [8]]:
            if type(band) is int and 1 <= band <= 64:
                continue
            with self.subTest(band=str(band)[:40]):
                self.fault(("band", None), line(), band, {}, {})
                self.fault(("band", None), line(), band, None, None)

    def test_rates(self):
        spots = {"a": ((0,), 0)}
        for rate in range(1, 17):
            self.fault(None, line(), 16, {"a": rate}, spots)
        for rates in STRANGE + [{"a": 0}, {"a": 17}, {"a": True}, {"a": None}, {"a": "1"}, {"a": [1]},
                                {"A": 1}, {"a+": 1}, {"": 1}, {1: 1}, {None: 1}, {("a",): 1}, [("a", 1)],
                                {"abcdefghi": 1}, {"a": 1, "b": 0}]:
            if rates in ({}, {"a": 1}) and type(rates) is dict:
                continue
            with self.subTest(rates=str(rates)[:40]):
                self.fault(("rates", None), line(), 16, rates, spots)
                self.fault(("rates", None), line(), 16, rates, None)

    def test_twelve_and_thirteen_signals(self):
        names = "abcdefghijklm"
        twelve = {name: 1 for name in names[:12]}
        spots = {name: ((0,), place) for place, name in enumerate(names[:12])}
        self.fault(None, line(), 12, twelve, spots)
        self.fault(("place", "l"), line(), 11, twelve, spots)
        self.fault(("rates", None), line(), 13, {**twelve, "m": 1}, {**spots, "m": ((0,), 12)})
        self.fault(("rates", None), line(), 13, {**twelve, "m": 1}, spots)
        self.fault(("signal", "m"), line(), 13, twelve, {**spots, "m": ((0,), 12)})

    def test_spots(self):
        right = ((0,), 0)
        for spots in STRANGE + [{"A": right}, {"a": right, "a++": right}, {"a": right, "+": right},
                                {"a": right, 1: right}, {"a": right, None: right}, [("a", right)],
                                {"a": right, ("a",): right}, {"a": right, "a?": right}, {"": right}]:
            if type(spots) is dict and all(key in ("a",) for key in spots):
                continue
            with self.subTest(spots=str(spots)[:40]):
                self.fault(("spots", None), line(), 4, {"a": 1}, spots)
                self.fault(("spots", None), line(), 4, {"b": 1}, spots)

    def test_signals(self):
        spot = ((0,), 0)
        self.fault(("signal", "a"), line(), 4, {"a": 1}, {})
        self.fault(("signal", "a"), line(), 4, {}, {"a": spot})
        self.fault(("signal", "a+"), line(), 4, {}, {"a+": spot, "b": spot})
        self.fault(("signal", "a*"), line(), 4, {}, {"a+": spot, "a*": spot, "b": spot})
        self.fault(("signal", "b"), line(), 4, {"b": 1, "a": 1}, {"a": spot, "b*": spot})
        self.fault(("signal", "b"), line(), 4, {"b": 1}, {"b*": None, "b+": None})
        self.fault(("signal", "a*"), line(), 4, {"b": 1}, {"a*": spot})
        self.fault(("signal", "b"), line(), 4, {"b": 1}, {"c": spot, "b+": spot})

    def test_twins(self):
        rates = {"a": 1, "b": 1, "c": 1}
        lights = {"a": ((0,), 0), "b": ((0,), 1), "c": ((0,), 2)}
        self.fault(None, line(), 4, rates, {**lights, "c+": ((1,), 2)})
        self.fault(("twin", "b+"), line(), 4, rates, {**lights, "b+": ((1,), 2), "a+": ((2,), 2)})
        self.fault(("twin", "b+"), line(), 4, rates, {**lights, "c+": None, "b+": None, "a+": None})
        self.fault(("signal", "d+"), line(), 4, rates, {**lights, "c+": None, "d+": None})

    def test_routes(self):
        rates = {"a": 1, "b": 1}
        right = ((0,), 0)
        for spot in STRANGE + [((0,), 0, 0), [(0,), 0], ([0], 0), ((0,), True), ((0,), False), ((0,), None),
                               ((0,), "0"), ((0,), [0]), ((), 0), ((3,), 0), ((0, 1), 0), ((False,), 0),
                               (0, 0), ((0,),), ((0, 0), 0), ((-1,), 0), (None, None), ((0,), ())]:
            with self.subTest(spot=str(spot)[:40]):
                self.fault(("route", "a"), line(), 4, rates, {"a": spot, "b": right})
                self.fault(("route", "b"), line(), 4, rates, {"a": right, "b": spot})
                self.fault(("route", "a"), line(), 4, rates, {"b": spot, "a": spot})
                self.fault(("route", "a*"), line(), 4, rates, {"b": right, "a": right, "a*": spot})

    def test_far(self):
        net = Net(("a", "b", 6, "d"), ("b", "c", 5, "e"), ("a", "c", 10, "f"), reach=[(10, 1)])
        self.fault(None, net, 4, {"a": 1}, {"a": ((2,), 0)})
        self.fault(("far", "a"), net, 4, {"a": 1}, {"a": ((0, 1), 0)})
        self.fault(("far", "a*"), net, 4, {"a": 1}, {"a": ((2,), 99), "a*": ((0, 1), 0)})
        self.fault(("far", "b"), net, 4, {"a": 1, "b": 1}, {"a": ((0,), 0), "b": ((0, 1), 0)})

    def test_ends(self):
        net = ladder()
        self.fault(("ends", "a*"), net, 8, {"a": 1}, {"a": ((0,), 0), "a*": ((4,), 0)})
        self.fault(("ends", "a+"), net, 8, {"a": 1}, {"a": ((0,), 0), "a+": ((0, 2), 99)})
        self.fault(("ends", "a*"), net, 8, {"a": 1}, {"a": ((0,), 0), "a+": ((3,), 0), "a*": ((4,), 0)})

    def test_places(self):
        net = line((100, 3))
        for rate in (1, 2, 16):
            width = 3 * rate
            self.fault(None, net, 64, {"a": rate}, {"a": ((0,), 0)})
            self.fault(None, net, 64, {"a": rate}, {"a": ((0,), 64 - width)})
            self.fault(None, net, width, {"a": rate}, {"a": ((0,), 0)})
            for place in (-1, 65 - width, 64, 10 ** 59, -(10 ** 59)):
                self.fault(("place", "a"), net, 64, {"a": rate}, {"a": ((0,), place)})
            self.fault(("place", "a"), net, width - 1, {"a": rate}, {"a": ((0,), 0)})
        self.fault(("place", "a*"), net, 64, {"a": 1, "b": 1},
                   {"a": ((0,), 0), "a*": ((0,), 99), "b": ((0,), 99)})

    def test_calls(self):
        net = Net(("a", "b", 1, "p"), ("a", "b", 1, "p"), ("a", "b", 1, "q"))
        self.fault(None, net, 4, {"a": 1}, {"a": ((0,), 0), "a*": ((2,), 0)})
        self.fault(("calls", "a*"), net, 4, {"a": 1}, {"a": ((0,), 0), "a*": ((0,), 1)})
        self.fault(("calls", "a*"), net, 4, {"a": 1}, {"a": ((0,), 0), "a*": ((1,), 1)})
        self.fault(None, net, 4, {"a": 1}, {"a": ((0,), 0), "a+": ((2,), 0), "a*": ((1,), 1)})
        self.fault(("calls", "a*"), net, 4, {"a": 1}, {"a": ((0,), 0), "a+": ((1,), 0), "a*": ((1,), 1)})
        self.fault(("calls", "b*"), net, 4, {"b": 1, "a": 1},
                   {"a": ((0,), 0), "b": ((0,), 0), "b*": ((0,), 0)})

    def test_overlaps_of_lit_items(self):
        net = ladder()
        rates = {"a": 2, "b": 3}
        for place in range(8):
            expected = ("overlap", "a") if 1 < place < 6 else None
            self.fault(expected, net, 13, rates, {"a": ((0, 2), 4), "b": ((0,), place)})
            self.fault(None, net, 13, rates, {"a": ((0, 2), 4), "b": ((3,), place)})
        self.fault(("overlap", "b"), net, 11, {"a": 2, "b": 3, "c": 3},
                   {"a": ((1,), 4), "b": ((0,), 0), "c": ((0, 2), 2)})
        self.fault(("overlap", "a"), net, 11, {"a": 2}, {"a": ((0,), 4), "a+": ((0,), 5)})
        self.fault(None, net, 11, {"a": 2}, {"a": ((0,), 4), "a+": ((0,), 6)})

    def test_a_reserve_may_share_with_what_is_cut_together(self):
        net = Net(("a", "b", 1, "p"), ("a", "b", 1, "q"), ("b", "c", 1, "p"), ("a", "b", 1, "s"))
        rates = {"a": 1, "b": 1}
        # The light of b has fibre 1 in common with the reserve of a, and duct p is its too.
        self.fault(("overlap", "a*"), net, 4, rates, {"a": ((0,), 0), "a*": ((1,), 1), "b": ((1,), 1)})
        self.fault(None, net, 4, rates, {"a": ((0,), 0), "a*": ((1,), 1), "b": ((1, 2), 1)})
        # Two reserves: a common call, and none.
        self.fault(("overlap", "a*"), net, 4, rates,
                   {"a": ((0,), 0), "b": ((0,), 1), "a*": ((1,), 1), "b*": ((1,), 1)})
        self.fault(None, net, 4, rates,
                   {"a": ((0,), 0), "b": ((3,), 0), "a*": ((1,), 1), "b*": ((1,), 1)})
        self.fault(None, net, 4, rates,
                   {"a": ((0,), 0), "b": ((0,), 1), "a*": ((1,), 1), "b*": ((3,), 1)})

    def test_a_reserve_of_a_signal_that_no_cut_strikes(self):
        net = line()
        rates = {"a": 1, "b": 1}
        spots = {"a": ((0,), 0), "a+": ((1,), 0), "a*": ((2,), 0), "b": ((2,), 0)}
        self.fault(None, net, 4, rates, spots)
        self.fault(("overlap", "a*"), net, 4, rates, {k: spots[k] for k in spots if k != "a+"})
        self.fault(None, net, 4, rates, {**spots, "a*": ((0,), 0)})

    def test_the_order_of_the_words(self):
        net = Net(("a", "b", 6, "d"), ("b", "c", 5, "d"), ("a", "c", 9, "f"), reach=[(10, 1)])
        rates = {"a": 1, "b": 1, "c": 1, "d": 1, "e": 1, "f": 1}
        spots = {
            "a": ((0,), 0), "a*": ((0,), 0), "b": ((0,), 0), "c": ((0,), 4), "d": ((0,), 5), "d*": ((1,), 5),
            "e": ((0, 1), 0), "f": (None, 0), "e+": ((2,), 0), "f+": ((2,), 0), "g": ((2,), 0),
        }
        steps = [
            (("signal", "g"), {"g"}), (("twin", "f+"), {"f+"}), (("route", "f"), {"f"}), (("far", "e"), {"e", "e+"}),
            (("ends", "d*"), {"d*"}), (("place", "c"), {"c"}), (("place", "d"), {"d"}), (("calls", "a*"), {"a*"}),
            (("overlap", "a"), {"a"}),
        ]
        self.fault(("band", None), net, None, None, None)
        self.fault(("rates", None), net, 4, {"a": 17, **rates, "a": 0}, {1: 2})
        self.fault(("spots", None), net, 4, rates, {**spots, 1: 2})
        for expected, gone in steps:
            self.fault(expected, net, 4, rates, spots)
            spots = {item: spots[item] for item in spots if item not in gone}
            rates = {name: rates[name] for name in rates if name not in gone}
        self.fault(None, net, 4, rates, spots)

    def test_the_order_of_keys_means_nothing(self):
        layout = crowd()
        rates = dict(reversed(layout.rates.items()))
        spots = dict(reversed(layout.spots.items()))
        again = Layout(layout.net, 10, rates, spots)
        self.assertEqual(again, layout)
        self.assertEqual(list(again.rates), sorted(rates))
        self.assertEqual(list(again.spots), sorted(spots))

    def test_arguments_by_name(self):
        told = {"net": line(), "band": 3, "rates": {"a": 1}, "spots": {"a": ((0,), 2)}}
        self.assertIs(layout_fault(**told), None)
        self.assertEqual(Layout(**told), Layout(told["net"], 3, told["rates"], told["spots"]))


def random_spots(rng, net, names, band):
    """Rates and spots that are often right, and wrong in one or another way."""
    rates, spots = {}, {}
    for name in names:
        routes = list(routes_between(net, *rng.sample(net.stations, 2)))
        if not routes:
            continue
        rates[name] = rng.choice([1, 1, 1, 2, 3])
        spots[name] = (rng.choice(routes), rng.randrange(band))
        for mark, chance in (("*", 0.7), ("+", 0.25)):
            if rng.random() < chance:
                spots[name + mark] = (rng.choice(routes), rng.randrange(band))
    return shuffled(rng, rates), shuffled(rng, spots)


def shuffled(rng, table):
    """The same dict with its keys put in in another order."""
    return {key: table[key] for key in rng.sample(sorted(table), len(table))}


def spoil(rng, net, rates, spots):
    """Makes some spots wrong."""
    for item in list(spots):
        chance = rng.random()
        if chance < 0.04:
            spots[item] = (rng.choice([(0, 0), (99,), [0], None]), 0)
        elif chance < 0.08:
            spots[item] = ((rng.randrange(len(net)),), 0)
        elif chance < 0.1:
            del spots[item]
        elif chance < 0.12:
            rates.pop(item, None)


class AgainstTheDocumentTest(unittest.TestCase):
    def test_faults(self):
        rng = generator(7)
        seen = {}
        for turn in range(3000):
            net = random_net(rng, rng.randint(1, 7), rng.randint(2, 4), rng.randint(1, 4))
            band = rng.choice([2, 4, 8, 12])
            rates, spots = random_spots(rng, net, ["a", "ab", "b", "c"][:rng.randint(0, 4)], band)
            if turn % 3 == 0:
                spoil(rng, net, rates, spots)
            expected = oracle.fault(net, band, rates, spots)
            self.assertEqual(layout_fault(net, band, rates, spots), expected)
            word = expected[0] if expected else None
            seen[word] = seen.get(word, 0) + 1
        words = {"signal", "twin", "route", "far", "ends", "place", "calls", "overlap", None}
        self.assertEqual(set(seen), words)
        self.assertGreater(min(seen.values()), 20)

    def test_the_fact_about_cuts(self):
        rng = generator(8)
        counts = {True: 0, False: 0}
        while min(counts.values()) < 300:
            net = random_net(rng, rng.randint(3, 8), rng.randint(2, 3), rng.randint(2, 4), ())
            rates, spots = random_spots(rng, net, ["a", "b", "c"], 4)
            found = layout_fault(net, 4, rates, spots)
            if found and found[0] not in ("calls", "overlap"):
                continue
            self.assertIs(found is None, oracle.survives(net, rates, spots))
            counts[found is None] += 1
