"""Promises [3] and [4]: routes, their ends, lengths, ducts, factors and widths."""

import itertools
import types
import unittest

from everlit.errors import InvalidRoute, NoStation, TooFar
from everlit.nets import Net
from everlit.routes import (
    common, ducts_of, ends_of, factor_of, is_route, length_of, routes_between, stations_on, width_of,
)
from tests.samples import STRANGE, generator, ladder, line, random_net


def path_told(net, route):
    """The path of a route by the words of the document, or None."""
    found = []
    stations = {end for fibre in net.fibres for end in fibre[:2]}
    for start in stations:
        path = [start]
        for index in route:
            ends = set(net.fibres[index][:2])
            if path[-1] not in ends:
                break
            path.append((ends - {path[-1]}).pop())
        if len(path) == len(route) + 1 and len(set(path)) == len(path) and path[0] < path[-1]:
            found.append(tuple(path))
    return found[0] if found and len(set(route)) == len(route) else None


class RouteTest(unittest.TestCase):
    def test_against_the_words_of_the_document(self):
        rng = generator(3)
        for _ in range(40):
            net = random_net(rng, rng.randint(1, 6), rng.randint(2, 5), 4)
            told = {}
            for many in range(1, 5):
                for route in itertools.product(range(len(net)), repeat=many):
                    path = path_told(net, route)
                    self.assertIs(is_route(net, route), path is not None)
                    if path is not None:
                        self.assertEqual(stations_on(net, route), path)
                        self.assertEqual(ends_of(net, route), (path[0], path[-1]))
                        told.setdefault((path[0], path[-1]), []).append(route)
            for one, other in itertools.product(net.stations, repeat=2):
                ends = (min(one, other), max(one, other))
                expected = sorted(told.get(ends, []), key=lambda route: (length_of(net, route), route))
                found = list(routes_between(net, one, other))
                self.assertEqual([route for route in found if len(route) < 5], expected)

    def test_orientation(self):
        net = ladder()
        self.assertTrue(is_route(net, (0, 2)))
        self.assertFalse(is_route(net, (2, 0)))
        self.assertTrue(is_route(net, (3, 2)))
        self.assertFalse(is_route(net, (2, 3)))
        self.assertEqual(stations_on(net, (3, 2)), ("a", "c", "b"))
        self.assertEqual(stations_on(net, (0, 2, 4)), ("a", "b", "c", "d"))
        self.assertEqual(ends_of(net, (0, 2, 4)), ("a", "d"))
        self.assertEqual(stations_on(net, (1,)), ("a", "b"))

    def test_what_is_no_route(self):
        net = ladder()
        wrong = [value for value in STRANGE if value != (1,)] + [
            (6,), (-1,), (True,), (0, 0), (0, 1), (0, 2, 3), (0, 4), [0], [0, 2], (0, "2"), ("0",),
            (0, None), ((0,),), ([0],), (0, False), (0,) * 17, "0,2", 0, (0, 2, 4, 5),
        ]
        for value in wrong:
            with self.subTest(value=str(value)[:40]):
                self.assertIs(is_route(net, value), False)
                for ask in (ends_of, stations_on, length_of, ducts_of, factor_of):
                    with self.assertRaises(InvalidRoute) as caught:
                        ask(net, value)
                    self.assertIs(caught.exception.value, value)
                with self.assertRaises(InvalidRoute) as caught:
                    width_of(net, value, 3)
                self.assertIs(caught.exception.value, value)

    def test_false_is_not_fibre_0(self):
        net = ladder()
        self.assertTrue(is_route(net, (0, 2)))
        self.assertFalse(is_route(net, (False, 2)))
        self.assertFalse(is_route(net, (True, 2)))

    def test_lengths_and_ducts(self):
        net = ladder()
        self.assertEqual(length_of(net, (0,)), 100)
        self.assertEqual(length_of(net, (0, 2, 4)), 250)
        self.assertEqual(ducts_of(net, (0, 2, 4)), ("w", "x", "z"))
        self.assertEqual(ducts_of(net, (3, 2)), ("x", "z"))
        joined = Net(("a", "b", 1, "d"), ("b", "c", 1, "d"))
        self.assertEqual(ducts_of(joined, (0, 1)), ("d",))

    def test_longest_route(self):
        letters = "abcdefghijklmnopq"
        net = Net(*[(letters[k], letters[k + 1], 10000, "d") for k in range(16)], reach=[(160000, 8)])
        route = tuple(range(16))
        self.assertTrue(is_route(net, route))
        self.assertEqual(length_of(net, route), 160000)
        self.assertEqual(stations_on(net, route), tuple(letters))
        self.assertEqual(factor_of(net, route), 8)
        self.assertEqual(width_of(net, route, 16), 128)
        self.assertEqual(list(routes_between(net, "q", "a")), [route])

    def test_factors_at_the_rows(self):
        def factor(length, *reach):
            return factor_of(Net(("a", "b", length, "d"), reach=reach), (0,))
        self.assertEqual(factor(10000), 1)
        self.assertEqual(factor(1, (5, 2)), 2)
        self.assertEqual(factor(5, (5, 2)), 2)
        self.assertEqual(factor(5, (5, 2), (6, 4)), 2)
        self.assertEqual(factor(6, (5, 2), (6, 4)), 4)
        six = [(10 * k + 10, k + 2) for k in range(6)]
        for length in range(1, 61):
            self.assertEqual(factor(length, *six), (length + 9) // 10 + 1)

    def test_too_far(self):
        net = Net(("a", "b", 6, "d"), ("b", "c", 5, "d"), reach=[(3, 1), (6, 2)])
        self.assertEqual(factor_of(net, (0,)), 2)
        for ask in (lambda: factor_of(net, (0, 1)), lambda: width_of(net, (0, 1), 1)):
            with self.assertRaises(TooFar) as caught:
                ask()
            self.assertEqual(caught.exception.length, 11)
        self.assertEqual(length_of(net, (0, 1)), 11)
        self.assertTrue(is_route(net, (0, 1)))
        one_longer = Net(("a", "b", 7, "d"), reach=[(3, 1), (6, 2)])
        self.assertRaises(TooFar, factor_of, one_longer, (0,))

    def test_widths(self):
        net = line((99, 1), (100, 3))
        for rate in range(1, 17):
            self.assertEqual(width_of(net, (0,), rate), 3 * rate)
            self.assertEqual(width_of(net=net, route=(1,), rate=rate), 3 * rate)

    def test_routes_between_are_ordered(self):
        net = ladder()
        found = list(routes_between(net, "d", "a"))
        self.assertEqual(found, list(routes_between(net, "a", "d")))
        self.assertEqual(found, [(0, 2, 4), (3, 4), (1, 2, 4), (0, 5), (1, 5), (3, 2, 5)])
        self.assertEqual(list(routes_between(line(), "a", "b")), [(0,), (1,), (2,)])

    def test_routes_between_without_a_path(self):
        net = Net(("a", "b", 1, "d"), ("c", "e", 1, "d"))
        self.assertEqual(list(routes_between(net, "a", "e")), [])
        self.assertEqual(list(routes_between(net, "a", "a")), [])

    def test_routes_between_strange_stations(self):
        net = ladder()
        for value in STRANGE:
            if value == "a":
                continue
            for pair in ((value, "a"), ("a", value), (value, None), (value, value)):
                with self.subTest(value=str(value)[:40]):
                    with self.assertRaises(NoStation) as caught:
                        next(iter(routes_between(net, *pair)))
                    self.assertIs(caught.exception.name, value)
        with self.assertRaises(NoStation) as caught:
            list(routes_between(net, "q", "r"))
        self.assertEqual(caught.exception.name, "q")

    def test_it_is_a_generator_and_several_go_by_turns(self):
        net = ladder()
        first, second = routes_between(net, "a", "d"), routes_between(net=net, one="d", other="a")
        self.assertIsInstance(first, types.GeneratorType)
        self.assertEqual([pair[0] == pair[1] for pair in zip(first, second)], [True] * 6)
        self.assertEqual(list(first), [])

    def test_common(self):
        self.assertEqual(common(), ())
        self.assertEqual(common([]), ())
        self.assertEqual(common((3, 2, 5)), (2, 3, 5))
        self.assertEqual(common((3, 2, 5), (5, 3)), (3, 5))
        self.assertEqual(common((3, 2, 5), (5, 3), (3,)), (3,))
        self.assertEqual(common((0,), (1,)), ())
        self.assertEqual(common([(3, 2, 5), (5, 3)], (5,)), (5,))
        self.assertEqual(common([(3, 2, 5), (5, 3)]), (3, 5))
