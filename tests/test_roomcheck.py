"""Promises [9] and [14] to [17]: the checks of certificates, which may be any values."""

import unittest

from everlit.errors import InvalidWish
from everlit.layouts import Layout
from everlit.orders import order_of
from everlit.roomcheck import shows_barred, shows_heavy, shows_not_sooner, shows_throws
from everlit.rooms import room, room_at
from tests.samples import STRANGE, crowd, generator, line
from tests.test_chains import stack
from tests.test_rooms import bars_placed, clash_wished, crowded, right_placed, right_wishes, width_wished
from tests.test_roomticks import not_sooner_rows
from tests.test_ticks import FAR, bound, is_width_chain
from tests.test_turned import small, small_layouts
from tests.trying import kinds_spoiled


def is_chain(layout, items):
    return type(items) is tuple and all(pair in order_of(layout).pairs for pair in zip(items, items[1:]))


def weight(layout, items):
    return sum(layout.width(item) for item in items)


def row_bars(layout, wish, row):
    """The places that a right row bars [14], or None if the row is not right."""
    item, lower, upper = row
    if not clash_wished(layout, [wish], item, wish):
        return None
    if not is_chain(layout, (*lower, item)) or not is_chain(layout, (item, *upper)):
        return None
    width = width_wished(layout, wish)
    low, high = weight(layout, lower), layout.band - layout.width(item) - weight(layout, upper)
    return {place for place in range(layout.band - width + 1)
            if low + layout.width(item) > place and high < place + width}


class ShowsBarredTest(unittest.TestCase):
    def setUp(self):
        self.layout = stack(1, 2, 1, band=4)
        self.wish = ("d", (0,), 1)
        self.rows = (("a", (), ("b", "c")), ("b", ("a",), ("c",)), ("c", ("a", "b"), ()))

    def test_rows(self):
        self.assertIs(shows_barred(self.layout, self.wish, self.rows), True)
        self.assertIs(shows_barred(layout=self.layout, wish=self.wish, value=self.rows[::-1]), True)
        self.assertIs(shows_barred(self.layout, self.wish, self.rows * 3), True)
        for at in range(3):
            self.assertIs(shows_barred(self.layout, self.wish, self.rows[:at] + self.rows[at + 1:]), False)
        # A row that bars no place may be among them, but not one that is wrong.
        wider = self.layout.in_band(5)
        self.assertIs(shows_barred(wider, self.wish, self.rows), False)
        self.assertIs(shows_barred(self.layout, self.wish, self.rows + (("a", (), ()),)), True)
        self.assertIs(shows_barred(self.layout, self.wish, self.rows + (("a", (), ("c",)),)), True)
        for row in (("a", ("b",), ()), ("a", ("a",), ()), ("a", (), ("c", "b")), ("d", (), ()), ("a", ()), (),
                    ("b", ("c",), ()), ("b", (), ("a",)), ("a", [], ()), ("a", (), None), ["a", (), ()],
                    ("a", (), (), ()), (["a"], (), ()), ("a", "", ()), ("a", (None,), ()), ("a", (["b"],), ())):
            self.assertIs(shows_barred(self.layout, self.wish, self.rows + (row,)), False)

    def test_a_wish_wider_than_the_band(self):
        wish = ("d", (0,), 5)
        self.assertIs(shows_barred(self.layout, wish, ()), True)
        self.assertIs(shows_barred(self.layout, wish, self.rows), True)
        self.assertIs(shows_barred(self.layout, wish, (("a", ("b",), ()),)), False)
        self.assertIs(shows_barred(self.layout, wish, []), False)
        self.assertIs(shows_barred(self.layout, self.wish, ()), False)

    def test_an_empty_layout(self):
        layout = Layout(line(), 2, {}, {})
        self.assertIs(shows_barred(layout, ("a", (0,), 3), ()), True)
        self.assertIs(shows_barred(layout, ("a", (0,), 2), ()), False)

    def test_items_that_do_not_clash_bar_nothing(self):
        layout = small().in_band(5)
        self.assertIs(shows_barred(layout, ("n", (2,), 5), (("a", (), ("b",)), ("b", ("a",), ()))), False)
        # The reserve that is wished elsewhere is none that clashes.
        self.assertIs(shows_barred(layout, ("b*", (1,), None), (("b*", (), ()),)), False)

    def test_any_value(self):
        for value in STRANGE + list(kinds_spoiled(self.rows)):
            told = shows_barred(self.layout, self.wish, value)
            self.assertIs(type(told), bool)
            if type(value) is not tuple:
                self.assertIs(told, False)
        for value in STRANGE:
            self.assertIs(shows_barred(self.layout, self.wish, value), False)
            self.assertIs(shows_barred(self.layout, self.wish, self.rows + (value,)), False)
            self.assertIs(shows_barred(self.layout, self.wish, self.rows + ((value, (), ()),)), value == "a")

    def test_invalid_wish(self):
        for value in STRANGE + [self.rows]:
            with self.assertRaises(InvalidWish) as caught:
                shows_barred(self.layout, ("a", (0,), 1), value)
            self.assertEqual(caught.exception.word, "wish")

    def test_twelve_lights(self):
        layout = crowded().without("l")
        wish = ("l", (0,), 2)
        rows = room(layout, wish)[1]
        self.assertIs(shows_barred(layout, wish, rows), True)
        self.assertIs(shows_barred(layout, wish, rows * 2000), True)
        self.assertIs(shows_barred(layout, wish, rows[1:]), False)

    def test_against_the_definition(self):
        rng = generator(80)
        seen = {True: 0, False: 0}
        for found, wish in right_wishes(81, 150):
            layout = found.layout
            span = set(range(layout.band - width_wished(layout, wish) + 1))
            names = sorted(layout.spots)
            rows = []
            for _ in range(rng.randint(1, 5)):
                row = (rng.choice(names), tuple(rng.sample(names, rng.choice([0, 0, 1]))),
                       tuple(rng.sample(names, rng.choice([0, 0, 1]))))
                if row_bars(layout, wish, row) is not None or rng.random() < 0.2:
                    rows.append(row)
            answer = room(layout, wish)
            if answer[0] == "barred":
                rows.extend(row for row in answer[1] if rng.random() < 0.8)
            barred = [row_bars(layout, wish, row) for row in rows]
            expected = None not in barred and set().union(*barred) >= span
            self.assertIs(shows_barred(layout, wish, tuple(rows)), expected)
            seen[expected] += 1
        self.assertGreater(min(seen.values()), 10)


class ShowsThrowsTest(unittest.TestCase):
    def setUp(self):
        self.layout = stack(2, 2, band=5)
        self.placed = ((("d", (0,), 1), 1),)
        self.steps = (("first", "a"), ("thrown", 0), ("pushed", "b"))

    def test_steps(self):
        self.assertIs(shows_throws(self.layout, self.placed, self.steps), True)
        self.assertIs(shows_throws(layout=self.layout, placed=self.placed, value=self.steps), True)
        wrong = [
            self.steps[:2], self.steps[1:], self.steps[:1], (), self.steps[:1] + self.steps,
            self.steps[:1] + self.steps[2:], (self.steps[0], self.steps[1], ("pushed", "a")),
            (("first", "b"), ("pushed", "a")), (("first", "b"), ("thrown", 0), ("thrown", 0)),
            (self.steps[0], ("thrown", 1), self.steps[2]), (self.steps[0], ("thrown", -1), self.steps[2]),
            (self.steps[0], ("thrown", False), self.steps[2]), (self.steps[0], ("thrown", "0"), self.steps[2]),
            (self.steps[0], self.steps[1], self.steps[1], self.steps[2]), (("first", "d"),) + self.steps[1:],
            (("pushed", "a"),) + self.steps[1:], (self.steps[0], self.steps[1], ("first", "b")),
            (["first", "a"],) + self.steps[1:], (("first", "a", 0),) + self.steps[1:],
            (("first", ["a"]),) + self.steps[1:], (self.steps[0], self.steps[1], ("pushed", ["b"])),
            (self.steps[0], self.steps[1], ("push", "b")),
        ]
        for value in wrong + STRANGE + [list(self.steps)]:
            self.assertIs(shows_throws(self.layout, self.placed, value), False)
            self.assertIs(shows_throws(self.layout.in_band(64), self.placed, value), False)
        self.assertIs(shows_throws(self.layout.in_band(6), self.placed, self.steps), False)

    def test_any_value(self):
        for value in kinds_spoiled(self.steps):
            self.assertIs(shows_throws(self.layout, self.placed, value), False)
        for value in STRANGE:
            for step in (("first", value), ("pushed", value), ("thrown", value), (value, "a"), value):
                told = shows_throws(self.layout, self.placed, (step, *self.steps[1:]))
                self.assertIs(told, step == ("first", "a"))
                if step != ("thrown", 0) or step[1] is False:
                    self.assertIs(shows_throws(self.layout, self.placed, (self.steps[0], step, self.steps[2])), False)

    def test_a_bound_that_goes_on(self):
        # What is beyond the band stays there.
        layout = stack(2, 2, 2, band=7)
        placed = ((("d", (0,), 1), 1), (("e", (0,), 1), 6))
        steps = (("first", "a"), ("thrown", 0), ("pushed", "b"), ("thrown", 1), ("pushed", "c"))
        self.assertFalse(bars_placed(layout, placed, steps[:3]))
        self.assertIs(shows_throws(layout, placed, steps), bars_placed(layout, placed, steps))
        longer = steps[:3] + (("pushed", "c"),)
        self.assertIs(shows_throws(layout, placed, longer), True)
        self.assertIs(shows_throws(layout, placed, longer + (("thrown", 1),)), bars_placed(
            layout, placed, longer + (("thrown", 1),)))

    def test_wishes_that_leave_the_band_or_overlap_are_not_refused(self):
        light = ("d", (0,), 1)
        for placed in (((light, 10 ** 59),), ((light, -5),), ((light, 1), (("e", (0,), 1), 1))):
            self.assertIs(shows_throws(self.layout, placed, (("first", "a"),)), False)
        self.assertIs(shows_throws(self.layout, ((light, 1), (("e", (0,), 1), 1)), self.steps), True)

    def test_invalid_wish(self):
        light, twin, reserve = ("d", (0,), 1), ("a+", (1,), None), ("a*", (1,), None)
        told = [
            ("wish", ((("a", (0,), 1), 0),)), ("wish", ((twin, 0), (reserve, 0))), ("wish", ((reserve, 0), (twin, 0))),
            ("rate", ((light, 0), (("e", (0,), 0), 0))), ("calls", ((light, 0), (("d*", (0,), None), 0))),
        ]
        for word, placed in told:
            with self.assertRaises(InvalidWish) as caught:
                shows_throws(self.layout, placed, self.steps)
            self.assertEqual(caught.exception.word, word)

    def test_against_the_definition(self):
        rng = generator(82)
        seen = {True: 0, False: 0}
        for found, placed in right_placed(83, 120):
            layout, placed = found.layout, tuple(placed)
            steps = [("first", rng.choice(sorted(layout.spots)))]
            for _ in range(rng.randint(0, 5)):
                steps.append(rng.choice([("pushed", rng.choice(sorted(layout.spots))),
                                         ("thrown", rng.randrange(len(placed)))]))
            answer = room_at(layout, *placed)
            if answer[0] == "barred":
                steps = list(answer[1])
                if rng.random() < 0.4:
                    steps.pop(rng.randrange(len(steps)))
            expected = bars_placed(layout, placed, steps)
            seen[expected] += 1
            self.assertIs(shows_throws(layout, placed, tuple(steps)), expected)
        self.assertGreater(min(seen.values()), 20)


class ShowsNotSoonerTest(unittest.TestCase):
    def setUp(self):
        self.layout = stack(1, 1, 1, band=8).placed({"a": 1, "b": 2, "c": 3})
        self.wish = ("d", (0,), 5)
        high = ("c", ("c", "b", "a"), ("c",))
        self.rows = (("a", ("a",), ("a", "b")), ("b", ("b", "a"), ("b", "c")), high, high)

    def test_rows(self):
        rows = not_sooner_rows(self.layout, self.wish, 2)
        self.assertEqual(len(rows), 4)
        self.assertIs(shows_not_sooner(self.layout, self.wish, 2, rows), True)
        self.assertIs(shows_not_sooner(layout=self.layout, wish=self.wish, ticks=2, value=self.rows), True)
        self.assertIs(shows_not_sooner(self.layout, self.wish, 3, self.rows), False)
        # With one tick the chains of three items are too long.
        self.assertIs(shows_not_sooner(self.layout, self.wish, 1, self.rows), False)
        for value in (self.rows[1:], self.rows + self.rows[:1], self.rows[::-1], list(self.rows), ()):
            self.assertIs(shows_not_sooner(self.layout, self.wish, 2, value), False)

    def test_a_wish_wider_than_the_band(self):
        for ticks in (0, 5, FAR):
            self.assertIs(shows_not_sooner(self.layout, ("d", (0,), 9), ticks, ()), True)
            self.assertIs(shows_not_sooner(self.layout, ("d", (0,), 9), ticks, self.rows[:1]), False)
            self.assertIs(shows_not_sooner(self.layout, ("d", (0,), 9), ticks, []), False)

    def test_any_value(self):
        for value in STRANGE:
            self.assertIs(shows_not_sooner(self.layout, self.wish, 2, value), False)
            self.assertIs(shows_not_sooner(self.layout, self.wish, 2, self.rows[:3] + (value,)), False)
            for at in range(3):
                row = self.rows[3][:at] + (value,) + self.rows[3][at + 1:]
                self.assertIs(shows_not_sooner(self.layout, self.wish, 2, self.rows[:3] + (row,)), False)
        for value in kinds_spoiled(self.rows):
            told = shows_not_sooner(self.layout, self.wish, 2, value)
            self.assertIs(told, self.is_right(self.layout, self.wish, 2, value))

    def is_right(self, layout, wish, ticks, value):
        """Whether a value is right by the document."""
        if type(value) is not tuple or len(value) != max(0, layout.band - width_wished(layout, wish) + 1):
            return False
        return all(type(row) is tuple and len(row) == 3 and self.row_is_right(layout, wish, ticks, place, row)
                   for place, row in enumerate(value))

    def row_is_right(self, layout, wish, ticks, place, row):
        item, down, up = row
        if type(item) is not str or not clash_wished(layout, [wish], item, wish):
            return False
        for chain, upwards in ((down, False), (up, True)):
            if type(chain) is not tuple or not chain or chain[0] != item:
                return False
            if not all(type(other) is str for other in chain) or not is_width_chain(layout, chain, ticks, upwards):
                return False
        width = layout.width(item)
        reached = layout.band - width - bound(layout, up, ticks, True)
        return bound(layout, down, ticks) + width > place and reached < place + width_wished(layout, wish)

    def test_against_the_definition(self):
        rng = generator(84)
        seen = {True: 0, False: 0}
        for found, wish in right_wishes(85, 200):
            ticks = rng.choice([0, 0, 1, 2, FAR])
            rows = not_sooner_rows(found.layout, wish, ticks)
            names = sorted(found.layout.spots)
            if None in rows:
                rows = tuple(row or (names[0], (names[0],), (names[0],)) for row in rows)
            elif rows and rng.random() < 0.5:
                at = rng.randrange(len(rows))
                item, down, up = rows[at]
                row = rng.choice([(item, down[:1], up), (item, down, up[:1]), (rng.choice(names), down, up),
                                  (item, up, down), (item, down, (item, rng.choice(names)))])
                rows = rows[:at] + (row,) + rows[at + 1:]
            expected = self.is_right(found.layout, wish, ticks, rows)
            seen[expected] += 1
            self.assertIs(shows_not_sooner(found.layout, wish, ticks, rows), expected)
        self.assertGreater(min(seen.values()), 20)


class ShowsHeavyTest(unittest.TestCase):
    def test_chains(self):
        layout = stack(1, 2, 1, band=8)
        self.assertIs(shows_heavy(layout, 3, ("a", "b", "c")), True)
        self.assertIs(shows_heavy(layout=layout, band=3, value=("a", "b", "c")), True)
        self.assertIs(shows_heavy(layout, 4, ("a", "b", "c")), False)
        self.assertIs(shows_heavy(layout, 1, ("a", "c")), True)
        self.assertIs(shows_heavy(layout, 1, ("b",)), True)
        self.assertIs(shows_heavy(layout, 10 ** 30, ("a", "b", "c")), False)
        for value in [("c", "b", "a"), ["a", "b", "c"], ("a", "b", "d"), ("a", "a"), (), "abc", ("d",)] + STRANGE:
            self.assertIs(shows_heavy(layout, 1, value), False)

    def test_the_crowd(self):
        self.assertIs(shows_heavy(crowd(), 8, ("one", "two", "wide*")), True)
        self.assertIs(shows_heavy(crowd(), 9, ("one", "two", "wide*")), False)

    def test_random_tuples(self):
        rng = generator(86)
        seen = {True: 0, False: 0}
        for layout in small_layouts(87, 200):
            items = tuple(rng.sample(sorted(layout.spots), 2))
            band = rng.randint(1, 4)
            expected = is_chain(layout, items) and weight(layout, items) > band
            seen[expected] += 1
            self.assertIs(shows_heavy(layout, band, items), expected)
        self.assertGreater(min(seen.values()), 10)
