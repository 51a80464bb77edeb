"""Promise [11]: what slides lead to, how many, and in which order."""

import unittest

from everlit.errors import Turned, Unlike
from everlit.layouts import Layout
from everlit.slides import distance, slides
from tests.samples import crowd, generator, line
from tests.test_chains import stack
from tests.test_turned import small
from tests.trying import shaken, tried


def after_slides(layout, moves):
    """The layout behind slide moves, each of which must lead to a layout."""
    for word, item, step in moves:
        assert word == "slide" and step in (1, -1)
        layout = layout.placed({item: layout[item][1] + step})
    return layout


class SlidesTest(unittest.TestCase):
    def test_no_slides(self):
        for layout in (crowd(), small(), Layout(line(), 1, {}, {})):
            self.assertEqual(distance(layout, layout), 0)
            self.assertEqual(list(slides(layout, layout)), [])

    def test_order_of_the_slides(self):
        layout = stack(1, 1, 1, 1, band=9).placed({"d": 7, "c": 5})
        goal = layout.placed({"a": 0, "b": 3, "c": 4, "d": 5})
        self.assertEqual(distance(layout, goal), 5)
        expected = [("slide", "c", -1), ("slide", "d", -1), ("slide", "d", -1)]
        expected += [("slide", "b", 1), ("slide", "b", 1)]
        self.assertEqual(list(slides(layout, goal)), expected)
        self.assertEqual(list(slides(first=layout, goal=goal)), expected)
        self.assertEqual(distance(first=goal, goal=layout), 5)
        back = [("slide", "b", -1), ("slide", "b", -1)]
        back += [("slide", "d", 1), ("slide", "d", 1), ("slide", "c", 1)]
        self.assertEqual(list(slides(goal, layout)), back)

    def test_equal_places_go_in_ascending_order(self):
        spots = {"b": ((1,), 2), "a": ((0,), 2), "c": ((2,), 2)}
        layout = Layout(line(), 6, {"a": 1, "b": 1, "c": 1}, spots)
        down = layout.placed({"a": 1, "b": 0, "c": 1})
        rows = [("slide", "a", -1), ("slide", "b", -1), ("slide", "b", -1), ("slide", "c", -1)]
        self.assertEqual(list(slides(layout, down)), rows)
        up = layout.placed({"a": 3, "b": 4, "c": 1})
        rows = [("slide", "c", -1), ("slide", "a", 1), ("slide", "b", 1), ("slide", "b", 1)]
        self.assertEqual(list(slides(layout, up)), rows)

    def test_several_may_be_asked_by_turns(self):
        layout, goal = small(), small().placed({"b": 6})
        one, other = slides(layout, goal), slides(goal, layout)
        turns = [(next(one), next(other)) for _ in range(5)]
        self.assertEqual(turns, [(("slide", "b", 1), ("slide", "b", -1))] * 5)
        self.assertEqual(list(one) + list(other), [])

    def test_errors(self):
        layout = small(band=5, rates={"a": 1, "b": 1})
        goal = layout.placed({"a": 2, "b": 0})
        calls = (distance, lambda one, other: next(slides(one, other)))
        for call in calls:
            with self.assertRaises(Turned) as caught:
                call(layout, goal)
            self.assertEqual((caught.exception.lower, caught.exception.upper), ("a", "b"))
            with self.assertRaises(Turned) as caught:
                call(goal, layout)
            self.assertEqual((caught.exception.lower, caught.exception.upper), ("b", "a"))
            for item, other in (
                (None, layout.in_band(6)), (None, Layout(line((150, 1)), 5, layout.rates, layout.spots)),
                ("b", layout.without("b")), ("b*", goal.without("b*")), ("a", layout.with_item("a", (2,), 0)),
                ("b", small(band=5)), ("c", goal.with_item("c", (2,), 0, rate=1)),
            ):
                with self.assertRaises(Unlike) as caught:
                    call(layout, other)
                self.assertEqual(caught.exception.item, item)

    def test_the_first_turned_pair(self):
        layout = stack(1, 1, 1, band=3)
        with self.assertRaises(Turned) as caught:
            next(slides(layout, layout.placed({"a": 0, "b": 2, "c": 1})))
        self.assertEqual((caught.exception.lower, caught.exception.upper), ("b", "c"))
        with self.assertRaises(Turned) as caught:
            distance(layout, layout.mirrored())
        self.assertEqual((caught.exception.lower, caught.exception.upper), ("a", "b"))

    def test_against_all_slides_of_small_layouts(self):
        rng = generator(31)
        counts = {True: 0, False: 0}
        for found in tried(32, 60):
            far = found.far(found.slid)
            for places in rng.sample(sorted(found.all), min(30, len(found.all))):
                goal = found.at(places)
                counts[places in far] += 1
                if places not in far:
                    self.assertRaises(Turned, distance, found.layout, goal)
                    continue
                moves = list(slides(found.layout, goal))
                self.assertEqual(len(moves), far[places])
                self.assertEqual(distance(found.layout, goal), far[places])
                self.assertEqual(after_slides(found.layout, moves), goal)
        self.assertGreater(min(counts.values()), 100)

    def test_the_order_of_the_slides_of_random_layouts(self):
        rng = generator(33)
        for found in tried(34, 40):
            first, goal = shaken(rng, found), shaken(rng, found)
            items = sorted(first.spots)
            falls = sorted(items, key=lambda item: first[item][1])
            rises = sorted(items, key=lambda item: -first[item][1])
            rows = [("slide", item, -1) for item in falls for _ in range(first[item][1] - goal[item][1])]
            rows += [("slide", item, 1) for item in rises for _ in range(goal[item][1] - first[item][1])]
            self.assertEqual(list(slides(first, goal)), rows)
