"""Promises [16] and [17]: room after ticks, and lesser bands."""

import unittest

from everlit.chains import heaviest_chain, least_band
from everlit.errors import InvalidBand
from everlit.layouts import Layout
from everlit.orders import order_of
from everlit.roomcheck import shows_barred, shows_heavy, shows_not_sooner
from everlit.rooms import room
from everlit.roomticks import narrowed, soonest
from everlit.ticks import envelope, fewest_ticks
from tests import oracle
from tests.samples import STRANGE, crowd, generator, line
from tests.test_chains import places, stack
from tests.test_rooms import clash_wished, crowded, right_wishes, width_wished
from tests.test_ticks import FAR, bound, is_width_chain, width_chains
from tests.test_turned import small
from tests.trying import Tried, shaken, spots_at, tried, with_wish


def first_room(found, wish):
    """The least ticks, and then the least place, with which the wished item has room, by trying."""
    layout = found.layout
    far = found.far(found.ticked)
    for ticks in range(max(far.values()) + 1):
        near = [told for told in far if far[told] <= ticks]
        for place in range(layout.band):
            for told in near:
                rates, spots = with_wish(layout, spots_at(found, told), wish, place)
                if oracle.fault(layout.net, layout.band, rates, spots) is None:
                    return (ticks, place)
    return None


def not_sooner_rows(layout, wish, ticks):
    """Rows of width chains against each place for so many ticks, None where there is none."""
    width = width_wished(layout, wish)
    down = [chain for chain in width_chains(layout) if is_width_chain(layout, chain, ticks)]
    up = [chain for chain in width_chains(layout, True) if is_width_chain(layout, chain, ticks, True)]
    rows = []
    for place in range(layout.band - width + 1):
        rows.append(None)
        for item in layout.spots:
            if not clash_wished(layout, [wish], item, wish):
                continue
            lower = [chain for chain in down if chain[0] == item
                     and bound(layout, chain, ticks) + layout.width(item) > place]
            upper = [chain for chain in up if chain[0] == item
                     and layout.band - layout.width(item) - bound(layout, chain, ticks, True) < place + width]
            if lower and upper:
                rows[-1] = (item, lower[0], upper[-1])
    return tuple(rows)


class SoonestTest(unittest.TestCase):
    def test_a_stack(self):
        layout = stack(1, 1, 1, band=8).placed({"a": 1, "b": 2, "c": 3})
        self.assertEqual(soonest(layout, ("d", (0,), 1)), ("soon", 0, 0, layout))
        self.assertEqual(soonest(layout, ("d", (0,), 4)), ("soon", 0, 4, layout))
        word, ticks, place, after = soonest(layout=layout, wish=("d", (0,), 5))
        self.assertEqual((word, ticks, place), ("soon", 3, 3))
        self.assertEqual(places(after), {"a": 0, "b": 1, "c": 2})
        self.assertEqual(soonest(layout, ("d", (0,), 6)), room(layout, ("d", (0,), 6)))
        self.assertEqual(soonest(layout, ("d", (0,), 6))[0], "barred")

    def test_the_reserve_that_is_there_stays(self):
        layout = small()
        told = soonest(layout, ("b*", (2,), None))
        self.assertEqual(told, ("soon", 0, 0, layout))
        self.assertEqual(soonest(layout, ("b*", (1,), None)), ("soon", 0, 0, layout))

    def test_edges(self):
        empty = Layout(line(), 1, {}, {})
        self.assertEqual(soonest(empty, ("a", (0,), 1)), ("soon", 0, 0, empty))
        self.assertEqual(soonest(empty, ("a", (0,), 2)), ("barred", ()))
        layout = stack(1, band=64)
        self.assertEqual(soonest(layout.placed({"a": 31}), ("b", (0,), 16))[1:3], (0, 0))
        layout = crowded()
        self.assertEqual(soonest(layout, ("a*", (2,), None)), ("soon", 0, 0, layout))
        self.assertEqual(soonest(layout.without("l"), ("l", (0,), 2))[0], "barred")

    def test_against_all_ticks_of_small_layouts(self):
        counts = {}
        rng = generator(71)
        for found, wish in right_wishes(72, 120):
            found.start = found.places(shaken(rng, found))
            found.layout = found.at(found.start)
            self.soonest_is_right(found, wish, counts)
        self.assertTrue(counts[0] > 20 and counts[1] > 3 and counts[None] > 20)

    def test_against_all_ticks_of_lights_on_one_fibre(self):
        counts = {}
        rng = generator(70)
        for _ in range(60):
            layout = stack(*rng.choice([(1, 1), (1, 2), (2, 1, 1), (1, 1, 1)]), band=rng.randint(5, 8))
            found = Tried(layout)
            found.start = found.places(shaken(rng, found))
            found.layout = found.at(found.start)
            self.soonest_is_right(found, ("d", (0,), rng.randint(2, 4)), counts)
        self.assertTrue(counts[0] > 5 and counts[1] > 5 and counts[2] > 1 and counts[None] > 3, counts)

    def soonest_is_right(self, found, wish, counts):
        layout = found.layout
        answer = soonest(layout, wish)
        expected = first_room(found, wish)
        counts[expected and expected[0]] = counts.get(expected and expected[0], 0) + 1
        if expected is None:
            self.assertEqual(answer, room(layout, wish))
            self.assertIs(shows_barred(layout, wish, answer[1]), True)
            return
        word, ticks, place, after = answer
        self.assertEqual((word, ticks, place), ("soon", *expected))
        self.assertLessEqual(fewest_ticks(layout, after), ticks)
        rates, spots = with_wish(after, after.spots, wish, place)
        self.assertIsNone(oracle.fault(layout.net, layout.band, rates, spots))
        # Width chains show that there is no room after one tick less, and none do for so many.
        self.assertIn(None, not_sooner_rows(layout, wish, ticks))
        if ticks:
            rows = not_sooner_rows(layout, wish, ticks - 1)
            self.assertIs(shows_not_sooner(layout, wish, ticks - 1, rows), True)

    def test_a_wish_that_is_barred_is_barred_for_ever(self):
        for _, (found, wish) in zip(range(60), right_wishes(73, 120)):
            if room(found.layout, wish)[0] == "barred":
                rows = not_sooner_rows(found.layout, wish, FAR)
                self.assertIs(shows_not_sooner(found.layout, wish, FAR, rows), True)


class NarrowedTest(unittest.TestCase):
    def test_a_stack(self):
        layout = stack(1, 1, 1, band=8).placed({"a": 1, "b": 2, "c": 3})
        self.assertEqual(narrowed(layout, 8), ("fits", 0, layout))
        self.assertEqual(narrowed(layout, 4), ("fits", 0, layout.in_band(4)))
        word, ticks, after = narrowed(layout=layout, band=3)
        self.assertEqual((word, ticks), ("fits", 3))
        self.assertEqual(after, layout.placed({"a": 0, "b": 1, "c": 2}).in_band(3))
        self.assertEqual(narrowed(layout, 2), ("chain", ("a", "b", "c")))

    def test_edges(self):
        empty = Layout(line(), 64, {}, {})
        self.assertEqual(narrowed(empty, 1), ("fits", 0, empty.in_band(1)))
        full = crowded()
        self.assertEqual(narrowed(full, 12), ("fits", 0, full))
        word, chain = narrowed(full, 11)
        self.assertEqual((word, len(chain)), ("chain", 12))
        self.assertIs(shows_heavy(full, 11, chain), True)
        layout = stack(1, band=64).placed({"a": 63})
        self.assertEqual(narrowed(layout, 1), ("fits", 63, layout.placed({"a": 0}).in_band(1)))
        self.assertEqual(narrowed(crowd(), 9)[0], "fits")
        self.assertEqual(narrowed(crowd(), 8), ("chain", heaviest_chain(crowd())))

    def test_invalid_band(self):
        layout = crowd()
        for band in [0, 11, -1, 64, True, False] + [value for value in STRANGE if value not in (1,) or value is True]:
            with self.assertRaises(InvalidBand) as caught:
                narrowed(layout, band)
            self.assertIs(caught.exception.value, band)

    def test_against_all_ticks_of_small_layouts(self):
        rng = generator(74)
        seen = {"fits": 0, "chain": 0}
        for found in tried(75, 60):
            found.start = found.places(shaken(rng, found))
            layout = found.layout = found.at(found.start)
            far = found.far(found.ticked)
            for band in range(1, layout.band + 1):
                below = [far[told] for told in far if all(
                    place + width <= band for place, width in zip(told, found.width))]
                answer = narrowed(layout, band)
                seen[answer[0]] += 1
                if not below:
                    self.assertEqual(answer, ("chain", order_of(layout).chain))
                    self.assertGreater(least_band(layout), band)
                    self.assertIs(shows_heavy(layout, band, answer[1]), True)
                    continue
                self.assertEqual(answer[:2], ("fits", min(below)))
                self.assertEqual(answer[2].band, band)
                self.assertLessEqual(fewest_ticks(layout, answer[2].in_band(layout.band)), min(below))
                self.assertEqual(order_of(answer[2]), order_of(layout))
        self.assertGreater(min(seen.values()), 50)

    def test_it_is_the_lowest_places_that_count(self):
        layout = crowd()
        for band in range(9, 11):
            _, ticks, _ = narrowed(layout, band)
            for count in range(ticks + 1):
                low, _ = envelope(layout, count)
                self.assertIs(all(low[item] + layout.width(item) <= band for item in low), count == ticks)
