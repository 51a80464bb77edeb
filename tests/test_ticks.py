"""Promises [12] and [17]: ticks, lowest and highest places, width chains and what they bar."""

import unittest

from everlit.errors import NotAllowed, Turned, Unlike
from everlit.layouts import Layout
from everlit.orders import order_of
from everlit.slides import distance
from everlit.tickcheck import least_ticks
from everlit.ticks import after_tick, envelope, fewest_ticks, schedule, wait_chain
from tests.samples import STRANGE, crowd, generator, line
from tests.test_chains import places, stack
from tests.test_turned import small
from tests.trying import shaken, tried

FAR = 10 ** 30


def is_width_chain(layout, items, ticks, upwards=False):
    """Whether a tuple is a width chain [17]."""
    pairs = order_of(layout).pairs
    steps = list(zip(items, items[1:]))
    linked = all((pair if upwards else pair[::-1]) in pairs for pair in steps)
    return len(items) >= 1 and linked and len(items) - 1 <= ticks


def bound(layout, items, ticks, upwards=False):
    """The bound of a width chain [17]."""
    end = layout[items[-1]][1]
    if upwards:
        end = layout.band - end - layout.width(items[-1])
    return sum(layout.width(item) for item in items[1:]) + max(0, end - (ticks - (len(items) - 1)))


def bars_goal(layout, goal, word, items, ticks):
    """Whether a width chain bars the place of its first item in goal for a number of ticks."""
    if word == "down":
        return bound(layout, items, ticks) > goal[items[0]][1]
    reached = layout.band - layout.width(items[0]) - bound(layout, items, ticks, True)
    return reached < goal[items[0]][1]


def width_chains(layout, upwards=False):
    """All tuples of items each of which is directly below, or above, the one before it."""
    pairs = order_of(layout).pairs
    found = [(item,) for item in layout.spots]
    for chain in found:
        for lower, upper in pairs:
            one, other = (lower, upper) if upwards else (upper, lower)
            if one == chain[-1]:
                found.append(chain + (other,))
    return found


class AfterTickTest(unittest.TestCase):
    def barred(self, index, word, layout, *steps):
        with self.assertRaises(NotAllowed) as caught:
            after_tick(layout, *steps)
        self.assertEqual((caught.exception.index, caught.exception.word), (index, word))

    def test_no_steps(self):
        for layout in (crowd(), Layout(line(), 1, {}, {})):
            self.assertEqual(after_tick(layout), layout)
            self.assertEqual(after_tick(layout, []), layout)
            self.assertEqual(after_tick(layout=layout), layout)

    def test_steps_at_once(self):
        layout = stack(1, 2, 1, band=8).placed({"b": 2, "c": 6})
        after = after_tick(layout, ("a", 1), ("b", 1), ("c", -1))
        self.assertEqual(places(after), {"a": 1, "b": 3, "c": 5})
        self.assertEqual(after_tick(layout, [("c", 1), ("b", -1)])["c"], ((0,), 7))
        told = [("c", 1)]
        self.assertEqual(after_tick(layout, ("a", 1), told, ("b", 1)).spots["b"], ((0,), 3))
        self.assertEqual(told, [("c", 1)])
        self.assertEqual(places(layout), {"a": 0, "b": 2, "c": 6})

    def test_step(self):
        layout = small()
        wrong = [
            ("a",), ("a", 1, 1), ("a", True), ("a", 0), ("a", 2), ("a", "1"), ("a", None), (None, 1), (["a"], 1),
            ("A", 1), ("a b", 1), ("", 1), ("a", 10 ** 59), (("a",), 1), "a1", "a", {"a": 1},
        ]
        for step in wrong + [value for value in STRANGE if not isinstance(value, list)]:
            if step != ("a", 1) or step[1] is True:
                self.barred(0, "step", layout, step)
                self.barred(1, "step", layout, ("b*", 1), step)
        # A list stands for its entries.
        self.barred(0, "step", layout, ["b", 1])
        self.barred(1, "step", layout, ("b*", 1), ["b", 1])
        self.barred(1, "step", layout, [("b*", 1), ["b", 1]])
        self.assertEqual(after_tick(layout, [], [("b", 1)]), layout.placed({"b": 2}))

    def test_item(self):
        layout = small()
        for item in ("c", "a*", "a+", "ab", "b+"):
            self.barred(0, "item", layout, (item, 1))
        self.barred(1, "item", layout, ("b", 1), ("b", 1))
        self.barred(1, "item", layout, ("b", 1), ("b", -1))
        self.barred(2, "item", layout, ("b", 1), ("b*", 1), ("b", -1))

    def test_band(self):
        layout = small()
        self.barred(0, "band", layout, ("a", -1))
        self.barred(0, "band", layout.placed({"b": 6}), ("b", 1))
        self.barred(1, "band", layout.placed({"b*": 0}), ("b", 1), ("b*", -1))
        for step in (1, -1):
            self.barred(0, "band", stack(1, band=1), ("a", step))
            self.barred(0, "band", stack(16, band=16), ("a", step))

    def test_taken(self):
        layout = small()
        self.barred(0, "taken", layout, ("a", 1))
        self.barred(0, "taken", layout, ("b", -1))
        # Also if the other one leaves the slot in this tick.
        self.barred(1, "taken", layout, ("b", 1), ("a", 1))
        self.barred(0, "taken", layout, ("a", 1), ("b", 1))
        # Two that would come to one slot.
        apart = layout.placed({"b": 2})
        self.barred(1, "taken", apart, ("a", 1), ("b", -1))
        self.barred(1, "taken", apart, ("b", -1), ("a", 1))
        self.assertEqual(places(after_tick(apart, ("a", 1))), {"a": 1, "b": 2, "b*": 3})

    def test_items_that_do_not_clash_pass_one_another(self):
        free = Layout(line(), 4, {"a": 1, "b": 1}, {"a": ((0,), 0), "b": ((1,), 1)})
        self.assertEqual(places(after_tick(free, ("a", 1), ("b", -1))), {"a": 1, "b": 0})

    def test_against_all_ticks_of_small_layouts(self):
        rng = generator(41)
        counts = {}
        for found in tried(42, 60):
            layout = shaken(rng, found)
            start = found.places(layout)
            allowed = set(found.ticked(start))
            for _ in range(40):
                steps = [rng.choice((-1, 0, 1)) for _ in start]
                told = [(item, step) for item, step in zip(found.items, steps) if step]
                rng.shuffle(told)
                after = tuple(place + step for place, step in zip(start, steps))
                word = None
                try:
                    self.assertEqual(found.places(after_tick(layout, told)), after)
                except NotAllowed as wrong:
                    word = wrong.word
                    # The steps ahead of the first wrong one are a tick.
                    after_tick(layout, told[:wrong.index])
                self.assertIs(after in allowed, word is None)
                counts[word] = counts.get(word, 0) + 1
        self.assertEqual(set(counts), {None, "band", "taken"})


class EnvelopeTest(unittest.TestCase):
    def test_ticks(self):
        layout = stack(2, 1, band=10).placed({"a": 3, "b": 6})
        self.assertEqual(envelope(layout, 0), ({"a": 3, "b": 6}, {"a": 3, "b": 6}))
        self.assertEqual(envelope(layout, 1), ({"a": 2, "b": 5}, {"a": 4, "b": 7}))
        self.assertEqual(envelope(layout, 3), ({"a": 0, "b": 3}, {"a": 6, "b": 9}))
        self.assertEqual(envelope(layout, 4), ({"a": 0, "b": 2}, {"a": 7, "b": 9}))
        self.assertEqual(envelope(layout=layout, ticks=FAR), ({"a": 0, "b": 2}, {"a": 7, "b": 9}))

    def test_one_waits_for_the_other(self):
        layout = stack(1, 1, 1, band=5).placed({"a": 1, "b": 2, "c": 3})
        self.assertEqual(envelope(layout, 1)[0], {"a": 0, "b": 2, "c": 3})
        self.assertEqual(envelope(layout, 2)[0], {"a": 0, "b": 1, "c": 3})
        self.assertEqual(envelope(layout, 3)[0], {"a": 0, "b": 1, "c": 2})

    def test_edges(self):
        empty = Layout(line(), 64, {}, {})
        for ticks in (0, 1, FAR):
            self.assertEqual(envelope(empty, ticks), ({}, {}))
            full = stack(3, 1, 16, band=20)
            self.assertEqual(envelope(full, ticks), (places(full), places(full)))
            narrow = stack(1, band=1)
            self.assertEqual(envelope(narrow, ticks), ({"a": 0}, {"a": 0}))
        wide = stack(1, band=64)
        self.assertEqual(envelope(wide, 62), ({"a": 0}, {"a": 62}))
        self.assertEqual(envelope(wide, 63), ({"a": 0}, {"a": 63}))

    def test_the_dicts_are_new_and_ascending(self):
        layout = crowd()
        for ticks in (0, 2, FAR):
            low, high = envelope(layout, ticks)
            self.assertEqual((list(low), list(high)), (sorted(layout.spots), sorted(layout.spots)))
            low["one"] = high["two"] = 99
            self.assertNotEqual(envelope(layout, ticks), (low, high))
            self.assertEqual(layout, crowd())

    def test_twelve_lights_and_twelve_reserves(self):
        names = "abcdefghijkl"
        spots = {name: ((0,), 2 * at + 40) for at, name in enumerate(names)}
        spots.update({name + "*": ((1,), 4 * at) for at, name in enumerate(names)})
        layout = Layout(line(), 64, dict.fromkeys(names, 1), spots)
        low, high = envelope(layout, FAR)
        self.assertEqual([low[name] for name in names], list(range(12)))
        self.assertEqual([high[name + "*"] for name in names], list(range(52, 64)))
        self.assertEqual(envelope(layout, 5)[0]["l"], 62 - 5)
        self.assertEqual(fewest_ticks(layout, layout.placed(low)), 51)

    def test_mirrored(self):
        for found in tried(43, 30):
            layout = found.layout
            for ticks in (1, 2, FAR):
                low, high = envelope(layout, ticks)
                least, most = envelope(layout.mirrored(), ticks)
                for item in low:
                    self.assertEqual(most[item], layout.band - layout.width(item) - low[item])
                    self.assertEqual(least[item], layout.band - layout.width(item) - high[item])

    def test_against_all_ticks_of_small_layouts(self):
        rng = generator(44)
        for found in tried(45, 40):
            found.start = found.places(shaken(rng, found))
            layout = found.at(found.start)
            far = found.far(found.ticked)
            self.assertEqual(set(far), set(found.far(found.slid)))
            for ticks in range(max(far.values()) + 2):
                near = [places for places in far if far[places] <= ticks]
                low, high = envelope(layout, ticks)
                self.assertEqual(found.by_item(map(min, zip(*near))), low)
                self.assertEqual(found.by_item(map(max, zip(*near))), high)
                # All places between the lowest and the highest ones are reached.
                for reached in far:
                    within = all(low[item] <= place <= high[item] for item, place in found.by_item(reached).items())
                    self.assertIs(within, far[reached] <= ticks)
            self.assertEqual(envelope(layout, FAR), (low, high))


class FewestTicksTest(unittest.TestCase):
    def test_no_ticks(self):
        for layout in (crowd(), Layout(line(), 1, {}, {}), stack(3, 1, 16, band=20)):
            self.assertEqual(fewest_ticks(layout, layout), 0)
            self.assertEqual(schedule(layout, layout), [])
            self.assertIsNone(wait_chain(layout, layout))

    def test_a_row_that_waits(self):
        layout = stack(1, 1, 1, band=6).placed({"a": 1, "b": 2, "c": 3})
        goal = layout.placed({"a": 0, "b": 1, "c": 2})
        self.assertEqual(fewest_ticks(layout, goal), 3)
        self.assertEqual(schedule(layout, goal), [(("a", -1),), (("b", -1),), (("c", -1),)])
        self.assertEqual(schedule(first=goal, goal=layout), [(("c", 1),), (("b", 1),), (("a", 1),)])
        self.assertEqual(wait_chain(layout, goal)[0], "down")
        self.assertEqual(wait_chain(first=goal, goal=layout)[0], "up")
        self.assertEqual(fewest_ticks(first=goal, goal=layout), 3)

    def test_items_go_as_soon_as_they_can(self):
        layout = small().placed({"b": 5, "b*": 6})
        goal = layout.placed({"a": 1, "b": 2, "b*": 5})
        self.assertEqual(schedule(layout, goal), [
            (("a", 1), ("b", -1), ("b*", -1)), (("b", -1),), (("b", -1),)])

    def test_errors(self):
        layout = small(band=5, rates={"a": 1, "b": 1})
        goal = layout.placed({"a": 2, "b": 0})
        for call in (fewest_ticks, schedule, wait_chain):
            with self.assertRaises(Turned) as caught:
                call(layout, goal)
            self.assertEqual((caught.exception.lower, caught.exception.upper), ("a", "b"))
            for item, other in (
                (None, layout.in_band(6)), ("b", layout.without("b")), ("b", small(band=5)),
                ("a", goal.with_item("a", (2,), 0)),
            ):
                with self.assertRaises(Unlike) as caught:
                    call(layout, other)
                self.assertEqual(caught.exception.item, item)

    def test_against_all_ticks_of_small_layouts(self):
        rng = generator(46)
        ups = {"down": 0, "up": 0}
        for found in tried(47, 60):
            found.start = found.places(shaken(rng, found))
            layout = found.at(found.start)
            far = found.far(found.ticked)
            for reached in rng.sample(sorted(far), min(15, len(far))):
                goal = found.at(reached)
                self.assertEqual(fewest_ticks(layout, goal), far[reached])
                self.schedule_is_right(layout, goal, far[reached])
                told = wait_chain(layout, goal)
                if reached == found.start:
                    self.assertIsNone(told)
                    continue
                word, items = told
                ups[word] += 1
                self.assertTrue(is_width_chain(layout, items, far[reached] - 1, word == "up"))
                self.assertTrue(bars_goal(layout, goal, word, items, far[reached] - 1))
                self.assertEqual(least_ticks(layout, goal, told), far[reached])
        self.assertGreater(min(ups.values()), 50)

    def schedule_is_right(self, first, goal, many):
        ticks = schedule(first, goal)
        self.assertEqual(len(ticks), many)
        layout = first
        for count, tick in enumerate(ticks, start=1):
            self.assertEqual(tick, tuple(sorted(tick)))
            layout = after_tick(layout, *tick)
            low, high = envelope(first, count)
            for item in first.spots:
                aim = goal[item][1]
                up = min(aim, high[item]) if aim > first[item][1] else max(aim, low[item])
                self.assertEqual(layout[item][1], up)
        self.assertEqual(layout, goal)
        self.assertGreaterEqual(distance(first, goal), many)

    def test_the_greatest_bound_is_the_lowest_place(self):
        for found in tried(48, 30):
            layout = found.layout
            for ticks in (0, 1, 2, 3, 7, FAR):
                low, high = envelope(layout, ticks)
                for item in layout.spots:
                    told = [chain for chain in width_chains(layout) if chain[0] == item and len(chain) - 1 <= ticks]
                    self.assertEqual(max(bound(layout, chain, ticks) for chain in told), low[item])
                    told = [chain for chain in width_chains(layout, True)
                            if chain[0] == item and len(chain) - 1 <= ticks]
                    best = max(bound(layout, chain, ticks, True) for chain in told)
                    self.assertEqual(layout.band - layout.width(item) - best, high[item])


class LeastTicksTest(unittest.TestCase):
    def test_what_a_chain_shows(self):
        layout = stack(1, 1, 1, band=6).placed({"a": 1, "b": 2, "c": 3})
        goal = layout.placed({"a": 0, "b": 1, "c": 2})
        self.assertEqual(least_ticks(layout, goal, ("down", ("c", "b", "a"))), 3)
        self.assertEqual(least_ticks(layout, goal, ("down", ("c", "b"))), 2)
        self.assertEqual(least_ticks(layout, goal, ("down", ("c",))), 1)
        self.assertEqual(least_ticks(layout, layout, ("down", ("c",))), 0)
        self.assertEqual(least_ticks(first=goal, goal=layout, value=("up", ("a", "b", "c"))), 3)
        self.assertEqual(least_ticks(goal, layout, ("up", ("a",))), 1)
        self.assertEqual(least_ticks(layout, goal, ("up", ("a", "b", "c"))), 0)

    def test_a_turned_pair_bars_for_ever(self):
        layout = stack(1, 2, band=6)
        goal = layout.placed({"a": 2, "b": 0})
        self.assertIsNone(least_ticks(layout, goal, ("down", ("b", "a"))))
        self.assertEqual(least_ticks(layout, goal, ("down", ("b",))), 1)
        self.assertEqual(least_ticks(layout, goal, ("up", ("a", "b"))), 3)
        wide = layout.placed({"a": 5, "b": 0})
        self.assertIsNone(least_ticks(layout, wide, ("up", ("a", "b"))))

    def test_any_other_value(self):
        layout = stack(1, 1, 1, band=6).placed({"a": 1, "b": 2, "c": 3})
        goal = layout.placed({"a": 0, "b": 1, "c": 2})
        wrong = [
            ("down", ()), ("down", ["c", "b"]), ["down", ("c",)], ("down", ("c",), 1), ("down",), ("left", ("c",)),
            ("down", ("b", "c")), ("down", ("c", "c")), ("down", ("c", "d")), ("down", ("d",)), ("down", "c"),
            ("up", ("c", "b")), ("down", (("c", "b"),)), (("down",), ("c",)), ("down", ("c", None)),
            ("down", (["c"],)), ("down", (["c"], "b")), ("down", (True,)), (True, ("c",)), ("down", (None, "a")),
            ("down", {"c": 1}), ("Down", ("c",)), (["down"], ("c",)),
        ]
        for value in wrong + STRANGE:
            self.assertIsNone(least_ticks(layout, goal, value))

    def test_unlike_is_raised_ahead(self):
        layout = small()
        for value in STRANGE + [("down", ("a",))]:
            with self.assertRaises(Unlike) as caught:
                least_ticks(layout, layout.without("b"), value)
            self.assertEqual(caught.exception.item, "b")

    def test_against_the_definition(self):
        rng = generator(49)
        kinds = {}
        for found in tried(50, 50):
            layout = shaken(rng, found)
            goal = found.at(rng.choice(sorted(found.all)))
            for word in ("down", "up"):
                for chain in width_chains(layout, word == "up"):
                    # What bars after the greatest place is reached bars for every number.
                    numbers = range(len(chain) - 1, len(chain) + layout.band + 3)
                    barred = [ticks for ticks in numbers if bars_goal(layout, goal, word, chain, ticks)]
                    expected = max(barred) + 1 if barred else 0
                    if barred and max(barred) == numbers[-1]:
                        expected = None
                    self.assertEqual(least_ticks(layout, goal, (word, chain)), expected)
                    kinds[expected] = kinds.get(expected, 0) + 1
        self.assertTrue(kinds[None] > 20 and kinds[0] > 20 and kinds[1] > 20 and kinds[3] > 5)
