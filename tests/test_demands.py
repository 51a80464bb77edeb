"""Promise [22]: demands on the numbers of hops, and counts that meet them."""

import itertools
import unittest

from everlit.counts import cases, least_counts
from everlit.countcheck import shows_counts
from everlit.demands import demands, unmet
from everlit.errors import Unlike
from everlit.layouts import Layout
from everlit.nets import Net
from everlit.webs import fewest_hops
from tests import oracle
from tests.samples import crowd, generator, line
from tests.test_chains import stack
from tests.test_states import some_webs
from tests.test_webs import Tried


def piled(order, band=12, rates=None, net=None, routes=None):
    """A layout with the lights of a string of names one above the other, with rate 1 on fibre 0."""
    told = {name: (rates or {}).get(name, 1) for name in order}
    spots, at = {}, 0
    for name in order:
        spots[name] = ((routes or {}).get(name, (0,)), at)
        at += told[name]
    return Layout(net or line(), band, told, spots)


def tried_demands(first, goal):
    """The demands, each condition read off the spots."""
    net, one, two = first.net, first.spots, goal.spots
    names = [item for item in one if item.isalpha()]

    def below(spots, lower, upper):
        return oracle.clash(net, spots, lower, upper) and spots[lower][1] < spots[upper][1]

    found = [("route", name) for name in names if one[name][0] != two[name][0]]
    for a, b in itertools.combinations(names, 2):
        if (below(one, a, b) and below(two, b, a)) or (below(one, b, a) and below(two, a, b)):
            found.append(("pair", a, b))
    for h, v, u in itertools.permutations(names, 3):
        if below(one, v, h) and below(one, h, u) and below(two, u, h) and below(two, h, v):
            found.append(("own", h, v, u))
    return sorted(found)


def tried_meets(demand, counts):
    """Whether counts, all told, meet a demand."""
    word, *names = demand
    if word == "route":
        return counts[names[0]] >= 1
    if word == "pair":
        return counts[names[0]] >= 1 or counts[names[1]] >= 1
    return counts[names[0]] >= 2 or counts[names[1]] >= 1 or counts[names[2]] >= 1


def random_lights(rng, names, net, band=16):
    """A layout of lights alone, with routes and places by chance."""
    told = rng.sample(list(names), len(names))
    tops = [0] * len(net)
    spots = {}
    for name in told:
        fibre = rng.randrange(len(net))
        route = (fibre,)
        spots[name] = (route, tops[fibre])
        tops[fibre] += 1 + rng.randint(0, 1)
    return Layout(net, band, {name: 1 for name in names}, spots)


def some_pairs(seed, many, most=6):
    """Pairs of layouts with the same lights, on routes that differ sometimes."""
    rng = generator(seed)
    for _ in range(many):
        names = "abcdefghijkl"[:rng.randint(0, most)]
        net = Net(*[("a", "b", 1, duct) for duct in "pq"[:rng.randint(1, 2)]])
        first = random_lights(rng, names, net)
        goal = random_lights(rng, names, net, band=rng.choice([16, 20]))
        if rng.random() < 0.6 and len(net) == 2:
            spots = {name: (first[name][0], place) for name, (_, place) in goal.spots.items()}
            used = {}
            for name in sorted(spots, key=lambda name: spots[name][1]):
                route, place = spots[name]
                spots[name] = (route, max(place, used.get(route, 0)))
                used[route] = spots[name][1] + 1
            goal = Layout(net, 24, goal.rates, spots)
        yield rng, first, goal


class DemandsTest(unittest.TestCase):
    def test_nothing_differs(self):
        first = piled("abc")
        self.assertEqual(demands(first, first), [])
        self.assertEqual(demands(first=first, goal=first.in_band(64).placed({"c": 63, "b": 9})), [])
        empty = Layout(line(), 1, {}, {})
        self.assertEqual((demands(empty, empty), unmet(empty, empty, {})), ([], []))

    def test_a_pair(self):
        first, goal = piled("ab"), piled("ba")
        self.assertEqual(demands(first, goal), [("pair", "a", "b")])
        self.assertEqual(demands(goal, first), [("pair", "a", "b")])
        self.assertEqual(demands(piled("abc"), piled("bac")), [("pair", "a", "b")])
        # Lights that do not clash in both layouts are no pair.
        aside = piled("ba", routes={"a": (1,)})
        self.assertEqual(demands(first, aside), [("route", "a")])
        self.assertEqual(demands(piled("ab", routes={"a": (1,)}), aside), [])

    def test_a_route(self):
        first = piled("ab")
        goal = piled("ba", routes={"a": (1,), "b": (1,)})
        self.assertEqual(demands(first, goal), [("pair", "a", "b"), ("route", "a"), ("route", "b")])

    def test_own(self):
        first, goal = piled("vhu"), piled("uhv")
        pairs = [("pair", "h", "u"), ("pair", "h", "v"), ("pair", "u", "v")]
        self.assertEqual(demands(first, goal), [("own", "h", "v", "u")] + pairs)
        self.assertEqual(demands(goal, first), [("own", "h", "u", "v")] + pairs)
        # The signals below and above it need not clash with each other, and its route may change.
        net = Net(("a", "b", 1, "p"), ("b", "c", 1, "q"), ("b", "c", 1, "r"))
        routes = {"v": (0,), "u": (1,), "h": (0, 1)}
        first = piled("vhu", net=net, routes=routes)
        goal = piled("uhv", net=net, routes=routes)
        self.assertEqual(demands(first, goal), [("own", "h", "v", "u"), ("pair", "h", "u"), ("pair", "h", "v")])
        # Only pairs count, not what is below through another signal.
        self.assertEqual([row for row in demands(piled("vhu"), piled("hvu")) if row[0] == "own"], [])

    def test_reserves_and_bands_do_not_matter(self):
        first, goal = piled("ab"), piled("ba", band=40)
        with_reserve = first.with_item("a*", (1,), 3)
        self.assertEqual(demands(with_reserve, goal), demands(first, goal))
        self.assertEqual(demands(with_reserve, goal.with_item("b*", (2,), 0)), demands(first, goal))

    def test_twelve_signals_turned_about(self):
        names = "abcdefghijkl"
        found = demands(piled(names), piled(names[::-1]))
        self.assertEqual(len(found), 66 + 220)
        self.assertEqual(found, tried_demands(piled(names), piled(names[::-1])))
        self.assertEqual(found, sorted(set(found)))

    def test_against_the_conditions(self):
        words = {}
        for _, first, goal in some_pairs(230, 250):
            found = demands(first, goal)
            self.assertEqual(found, tried_demands(first, goal))
            for row in found:
                words[row[0]] = words.get(row[0], 0) + 1
        self.assertEqual(sorted(words), ["own", "pair", "route"])
        self.assertGreater(min(words.values()), 30)

    def test_every_plan_meets_them(self):
        rng = generator(231)
        count = 0
        for first, routes, still in some_webs(232, 30):
            tried = Tried(first, routes, still)
            ends = [spots for spots, hops in tried.single() if hops]
            for spots in rng.sample(ends, min(len(ends), 4)):
                goal = Layout(first.net, first.band, first.rates, spots)
                answer = fewest_hops(first, goal, routes=routes, still=still, limit=500)
                hops = {name: 0 for name in first.signals}
                for move in answer[2]:
                    if move[0] == "light":
                        hops[move[1]] += 1
                self.assertEqual(unmet(first, goal, hops), [])
                total, _ = least_counts(first, goal)
                self.assertLessEqual(total, answer[1])
                self.assertIs(shows_counts(first, goal, total, cases(first, goal)), True)
                count += total > 0
        self.assertGreater(count, 20)


class UnmetTest(unittest.TestCase):
    def test_the_three_kinds(self):
        first, goal = piled("vhu"), piled("uhv", routes={"u": (1,)})
        first = first.with_item("x", (2,), 0, rate=1)
        goal = goal.with_item("x", (1,), 5, rate=1)
        asked = demands(first, goal)
        self.assertEqual(asked, [("pair", "h", "v"), ("route", "u"), ("route", "x")])
        self.assertEqual(unmet(first, goal, {}), asked)
        self.assertEqual(unmet(first, goal, {"h": 1}), asked[1:])
        self.assertEqual(unmet(first, goal, {"v": 5, "u": 0, "x": 2}), [("route", "u")])
        self.assertEqual(unmet(first=first, goal=goal, counts={"v": 1, "u": 1, "x": 1, "h": 2}), [])

    def test_own_needs_two_hops_or_one_of_another(self):
        first, goal = piled("vhu"), piled("uhv")
        own = ("own", "h", "v", "u")
        self.assertIn(own, unmet(first, goal, {"h": 1}))
        for counts in ({"h": 2}, {"h": 3}, {"v": 1}, {"u": 1}, {"h": 1, "u": 7}):
            self.assertNotIn(own, unmet(first, goal, counts))
        # With another name nothing is met.
        self.assertEqual(unmet(first, goal, {"x": 9}), demands(first, goal))

    def test_the_counts_are_not_changed(self):
        counts = {"v": 1}
        first, goal = piled("vhu"), piled("uhv")
        unmet(first, goal, counts).clear()
        self.assertEqual(counts, {"v": 1})
        self.assertEqual(unmet(first, goal, counts), [("pair", "h", "u")])

    def test_against_the_conditions(self):
        for rng, first, goal in some_pairs(233, 120):
            asked = demands(first, goal)
            for _ in range(5):
                counts = {name: rng.choice([0, 0, 1, 2, 3]) for name in first.signals}
                left = {name: many for name, many in counts.items() if many or rng.random() < 0.5}
                self.assertEqual(unmet(first, goal, left), [row for row in asked if not tried_meets(row, counts)])


class UnlikeTest(unittest.TestCase):
    def raised(self, item, first, goal):
        calls = [demands, least_counts, cases, lambda one, two: unmet(one, two, {}),
                 lambda one, two: shows_counts(one, two, 0, ("sum",))]
        for call in calls:
            with self.assertRaises(Unlike) as caught:
                call(first, goal)
            self.assertEqual(caught.exception.item, item)

    def test_nets_then_signals_then_twins(self):
        first = piled("abc")
        other = Net(("a", "b", 1, "p"))
        self.raised(None, first, piled("abd", net=other))
        self.raised("c", first, piled("abd"))
        self.raised("c", piled("abd"), first)
        self.raised("b", first, piled("abc", rates={"b": 2, "c": 2}))
        self.raised("a", first, piled("bc"))
        self.raised("d", first, piled("abcd"))
        twin = first.with_item("b+", (1,), 0)
        self.raised("b+", twin, first)
        self.raised("b+", first, twin)
        self.raised("b+", twin, first.with_item("a+", (1,), 0))
        self.raised("a+", first.with_item("a+", (1,), 0), twin)
        # Several at once: the net ahead of the signals, these ahead of the twins.
        self.raised("d", twin, piled("abcd").with_item("a+", (1,), 0))
        self.raised(None, crowd(), twin)
        self.raised("a", crowd(), Layout(crowd().net, 10, {"a": 1}, {"a": ((0,), 0), "a+": ((1,), 0)}))

    def test_what_is_not_unlike(self):
        first = piled("abc")
        demands(first, first.in_band(20))
        demands(first, first.with_item("a", (1,), 9))
        demands(stack(1, 2), stack(1, 2).with_item("b*", (1,), 0))
