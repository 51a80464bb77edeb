"""Promises [22] and [23]: the least counts, cases and their check."""

import itertools
import unittest

from everlit.countcheck import shows_counts
from everlit.counts import cases, least_counts
from everlit.demands import demands, unmet
from everlit.errors import TooMany
from everlit.layouts import Layout
from everlit.nets import Net
from tests.samples import STRANGE, line
from tests.test_demands import piled, some_pairs, tried_demands, tried_meets
from tests.trying import kinds_spoiled

SUM = ("sum",)


def pairs_apart(many):
    """Two layouts with so many pairs of signals that are turned, each on a fibre of its own."""
    net = Net(*[("a", "b", 1, "p") for _ in range(max(many, 1))])
    names = "abcdefghijkl"
    rates = {names[at]: 1 for at in range(2 * many)}
    first = {names[at]: ((at // 2,), at % 2) for at in range(2 * many)}
    goal = {names[at]: ((at // 2,), 1 - at % 2) for at in range(2 * many)}
    return Layout(net, 8, rates, first), Layout(net, 9, rates, goal)


def rerouted(many):
    """Two layouts in which so many signals have other routes."""
    names = "abcdefghijkl"[:many]
    return piled(names), piled(names, routes={name: (1,) for name in names})


def depth(value):
    """How many cases stand one within another at most."""
    return 0 if value == SUM else 1 + max(depth(paper) for paper in value[2])


def deep(first, goal, many):
    """Cases with so many one within another, each for another signal as long as there is one."""
    asked = [row for row in demands(first, goal) if row[0] == "route"]
    value = SUM
    for at in range(many):
        value = ("case", asked[(many - 1 - at) % len(asked)], (value,))
    return value


class LeastCountsTest(unittest.TestCase):
    def test_small_ones(self):
        empty = Layout(line(), 1, {}, {})
        self.assertEqual(least_counts(empty, empty), (0, {}))
        first = piled("abc")
        self.assertEqual(least_counts(first, first), (0, {"a": 0, "b": 0, "c": 0}))
        total, counts = least_counts(first=first, goal=piled("bac"))
        self.assertEqual((total, sum(counts.values()), counts["c"]), (1, 1, 0))
        self.assertEqual(list(counts), ["a", "b", "c"])
        self.assertEqual(least_counts(*rerouted(3)), (3, {"a": 1, "b": 1, "c": 1}))
        counts.clear()
        self.assertEqual(least_counts(first, piled("bac"))[0], 1)

    def test_own(self):
        # Two of three: the middle one alone would hop twice, which leaves the pair of the others.
        self.assertEqual(least_counts(piled("vhu"), piled("uhv"))[0], 2)
        # Without the pair of the others the middle one hops twice, or both others once.
        net = Net(("a", "b", 1, "p"), ("b", "c", 1, "q"))
        routes = {"v": (0,), "u": (1,), "h": (0, 1)}
        first, goal = piled("vhu", net=net, routes=routes), piled("uhv", net=net, routes=routes)
        total, counts = least_counts(first, goal)
        self.assertEqual(total, 2)
        self.assertEqual(unmet(first, goal, counts), [])
        # With three on each side only two hops of the middle one are that few.
        names = {"a": (0,), "b": (0,), "c": (0,), "x": (1,), "y": (1,), "z": (1,), "h": (0, 1)}
        first = piled("abchxyz", net=net, routes=names)
        goal = piled("xyzhabc", net=net, routes=names)
        counts = {"a": 0, "b": 0, "c": 0, "h": 2, "x": 0, "y": 0, "z": 0}
        self.assertEqual(least_counts(first, goal), (2, counts))
        first, goal = first.without("c"), goal.without("c")
        counts.pop("c")
        self.assertEqual(least_counts(first, goal), (2, counts))

    def test_sums_up_to_six_and_more(self):
        for many in range(7):
            for first, goal in (pairs_apart(many), rerouted(many)):
                total, counts = least_counts(first, goal)
                self.assertEqual(total, many)
                self.assertEqual(unmet(first, goal, counts), [])
                told = cases(first, goal)
                self.assertLessEqual(depth(told), many)
                self.assertIs(shows_counts(first, goal, many, told), True)
                self.assertIs(shows_counts(first, goal, many + 1, told), False)
        for first, goal in (rerouted(7), rerouted(12), (piled("abcdefgh"), piled("hgfedcba")),
                            (piled("abcdefghijkl"), piled("lkjihgfedcba"))):
            for call in (least_counts, cases):
                with self.assertRaises(TooMany) as caught:
                    call(first, goal)
                self.assertEqual(caught.exception.limit, 6)
        self.assertEqual(least_counts(piled("abcdefg"), piled("gfedcba"))[0], 6)

    def test_against_all_counts(self):
        totals = {}
        for _, first, goal in some_pairs(240, 150, most=5):
            asked = tried_demands(first, goal)
            names = first.signals
            every = (dict(zip(names, told)) for told in itertools.product(range(3), repeat=len(names)))
            least = min(sum(told.values()) for told in every if all(tried_meets(row, told) for row in asked))
            total, counts = least_counts(first, goal)
            self.assertEqual(total, least)
            self.assertEqual((list(counts), sum(counts.values())), (list(names), least))
            self.assertTrue(all(type(many) is int and 0 <= many <= 2 for many in counts.values()))
            self.assertTrue(all(tried_meets(row, counts) for row in asked))
            told = cases(first, goal)
            self.assertLessEqual(depth(told), total)
            self.assertEqual(least_counts(first, goal), (total, counts))
            for other in range(8):
                self.assertIs(shows_counts(first, goal, other, told), other <= total)
            totals[total] = totals.get(total, 0) + 1
        self.assertGreater(len(totals), 4)


class CasesTest(unittest.TestCase):
    def test_what_they_are(self):
        first = piled("abc")
        self.assertEqual(cases(first, first), SUM)
        self.assertEqual(cases(first=first, goal=piled("bac")), ("case", ("pair", "a", "b"), (SUM, SUM)))
        self.assertEqual(cases(*rerouted(1)), ("case", ("route", "a"), (SUM,)))

    def test_papers_in_the_order_of_the_ways(self):
        net = Net(("a", "b", 1, "p"), ("b", "c", 1, "q"))
        routes = {"v": (0,), "u": (1,), "h": (0, 1)}
        first, goal = piled("vhu", net=net, routes=routes), piled("uhv", net=net, routes=routes)
        own, left, right = ("own", "h", "v", "u"), ("pair", "h", "v"), ("pair", "h", "u")
        two = SUM
        by_v = ("case", right, (SUM, SUM))
        by_u = ("case", left, (SUM, SUM))
        self.assertIs(shows_counts(first, goal, 2, ("case", own, (two, by_v, by_u))), True)
        self.assertIs(shows_counts(first, goal, 2, ("case", own, (by_v, two, by_u))), False)
        self.assertIs(shows_counts(first, goal, 2, ("case", own, (two, by_u, by_v))), False)
        self.assertIs(shows_counts(first, goal, 2, ("case", own, (two, by_v))), False)
        self.assertIs(shows_counts(first, goal, 2, ("case", own, (two, by_v, by_u, SUM))), False)
        self.assertIs(shows_counts(first, goal, 1, ("case", own, (SUM, SUM, SUM))), True)
        # A way that tells less than the least count leaves it as it is.
        inner = ("case", left, (SUM, SUM))
        self.assertIs(shows_counts(first, goal, 2, ("case", own, (inner, by_v, by_u))), True)
        self.assertIs(shows_counts(first, goal, 3, ("case", own, (inner, by_v, by_u))), False)
        # Ways to h and to v for the pair of both, in this order: h is told to hop once ahead.
        told = ("case", left, (("case", own, (SUM, SUM, SUM)), ("case", right, (SUM, SUM))))
        self.assertIs(shows_counts(first, goal, 2, told), True)
        self.assertIs(shows_counts(first, goal, 3, told), False)

    def test_totals_that_are_too_small_or_too_great(self):
        first, goal = piled("ab"), piled("ba")
        self.assertIs(shows_counts(first, goal, 0, SUM), True)
        self.assertIs(shows_counts(first, goal, 1, SUM), False)
        told = ("case", ("pair", "a", "b"), (SUM, SUM))
        self.assertIs(shows_counts(first, goal, 0, told), True)
        self.assertIs(shows_counts(first=first, goal=goal, total=1, value=told), True)
        self.assertIs(shows_counts(first, goal, 2, told), False)
        self.assertIs(shows_counts(first, goal, 10 ** 30, told), False)
        # The same demand again adds nothing for the signal that hops already.
        again = ("case", ("pair", "a", "b"), (told, told))
        self.assertIs(shows_counts(first, goal, 2, again), False)
        self.assertIs(shows_counts(first, goal, 1, again), True)

    def test_seven_deep_and_eight(self):
        first, goal = rerouted(8)
        for many in range(10):
            value = deep(first, goal, many)
            self.assertIs(shows_counts(first, goal, 0, value), many <= 7)
            self.assertIs(shows_counts(first, goal, many, value), many <= 7)
            self.assertIs(shows_counts(first, goal, many + 1, value), False)
        # One way is enough to be too deep.
        pair = (piled("ab"), piled("ba"))
        value = SUM
        for _ in range(6):
            value = ("case", ("pair", "a", "b"), (value, SUM))
        self.assertIs(shows_counts(*pair, 1, ("case", ("pair", "a", "b"), (SUM, value))), True)
        self.assertIs(shows_counts(*pair, 1, ("case", ("pair", "a", "b"), (("case", ("pair", "a", "b"), (
            value, SUM)), SUM))), False)

    def test_any_value(self):
        first, goal = piled("vhu"), piled("uhv")
        right = cases(first, goal)
        self.assertIs(shows_counts(first, goal, 2, right), True)
        for value in kinds_spoiled(right):
            self.assertIs(shows_counts(first, goal, 2, value), False)
        demand, papers = right[1], right[2]
        for value in STRANGE + [("sum", 1), ["sum"], "sum", ("case",), ("sum", "sum")]:
            self.assertIs(shows_counts(first, goal, 0, value), False)
            self.assertIs(shows_counts(first, goal, 2, ("case", value, papers)), False)
            self.assertIs(shows_counts(first, goal, 2, ("case", demand, value)), False)
            self.assertIs(shows_counts(first, goal, 2, (value, demand, papers)), False)
            self.assertIs(shows_counts(first, goal, 2, ("case", demand, (value, papers[1]))), False)
        for wrong in (("pair", "u", "h"), ("own", "h", "u", "v"), ("route", "h"), ("pair", "h"), ("pair", "h", "x"),
                      ["pair", "h", "u"], ("own", "v", "h", "u")):
            self.assertIs(shows_counts(first, goal, 0, ("case", wrong, (SUM,) * 3)), False)
            self.assertIs(shows_counts(first, goal, 0, ("case", wrong, (SUM,) * 2)), False)
            self.assertIs(shows_counts(first, goal, 0, ("case", wrong, (SUM,))), False)

    def test_spoiled_cases(self):
        count = {True: 0, False: 0}
        for rng, first, goal in some_pairs(241, 80):
            total, _ = least_counts(first, goal)
            asked = demands(first, goal)
            for _ in range(4):
                value = self.drawn(rng, asked, rng.randint(0, 3))
                told = self.holds(value, {}, total)
                self.assertIs(shows_counts(first, goal, total, value), told)
                self.assertIs(shows_counts(first, goal, 1, value), self.holds(value, {}, 1))
                count[told] += 1
        self.assertGreater(min(count.values()), 20)

    def drawn(self, rng, asked, left):
        if not left or not asked or rng.random() < 0.1:
            return SUM
        demand = rng.choice(asked)
        many = {"own": 3, "pair": 2, "route": 1}[demand[0]]
        return ("case", demand, tuple(self.drawn(rng, asked, left - 1) for _ in range(many)))

    def holds(self, value, least, total):
        """Promise [23] word by word, for values of the right form."""
        if value == SUM:
            return sum(least.values()) >= total
        _, (word, *names), papers = value
        ways = [(name, 2 if word == "own" and not at else 1) for at, name in enumerate(names)]
        return all(self.holds(paper, {**least, name: max(least.get(name, 0), many)}, total)
                   for (name, many), paper in zip(ways, papers))
