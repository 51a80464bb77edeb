"""Promises [12], [16] and [17] for many layouts one after another: the right answers, and at once."""

import time
import unittest

from everlit.chains import lifted, settled
from everlit.layouts import Layout
from everlit.nets import Net
from everlit.roomcheck import shows_throws
from everlit.rooms import room_at, room_pair
from everlit.roomticks import narrowed, soonest
from everlit.slides import slides
from everlit.tickcheck import least_ticks
from everlit.ticks import after_tick, envelope, fewest_ticks, schedule, wait_chain
from tests import oracle
from tests.samples import generator

NET = Net([("a", "b", 5, "de"), ("b", "c", 5, "df"), ("c", "zz", 5, "dg"), ("a", "zz", 9, "xe"), ("a", "c", 9, "df")])
RATES = {"a": 1, "b": 2, "ab": 1, "light": 2, "q": 1, "z": 2, "twin": 1}
SPOTS = {
    "a": ((0,), 0), "a*": ((4, 1), 6), "b": ((1,), 10), "ab": ((2,), 20), "light": ((0, 1, 2), 30), "light*": ((3,), 31),
    "q": ((0, 1), 40), "z": ((1, 2), 50), "twin": ((3,), 5),
}
MANY = 120


def layouts(many, seed):
    """Layouts to which slides lead from the issue's one."""
    rng = generator(seed)
    first = Layout(NET, 64, RATES, SPOTS)
    pairs = oracle.order_pairs(NET, SPOTS)
    top = lifted(first).spots
    for _ in range(many):
        places = {}
        for item in sorted(SPOTS, key=lambda item: SPOTS[item][1]):
            least = max([places[lower] + first.width(lower) for lower, upper in pairs if upper == item], default=0)
            places[item] = rng.randint(least, rng.choice([least, top[item][1]]))
        yield first.placed(places)


def lowest(layout, ticks):
    """The lowest places by [12], one tick after the other."""
    pairs = oracle.order_pairs(NET, layout.spots)
    row = {item: spot[1] for item, spot in layout.spots.items()}
    for _ in range(min(ticks, 70)):
        row = {item: max([0, row[item] - 1] + [row[lower] + layout.width(lower)
                                               for lower, upper in pairs if upper == item]) for item in row}
    return row


def highest(layout, ticks):
    """The highest places, as the lowest ones of the mirrored layout."""
    found = lowest(layout.mirrored(), ticks)
    return {item: layout.band - layout.width(item) - found[item] for item in found}


def fits_after(layout, ticks, band):
    low = lowest(layout, ticks)
    return all(low[item] + layout.width(item) <= band for item in low)


def place_after(layout, route, width, ticks):
    """The least place at which a new light on a route has room after so many ticks [16], or None."""
    low, high = lowest(layout, ticks), highest(layout, ticks)
    spots = {**layout.spots, "new": (route, 0)}
    others = [item for item in low if oracle.clash(NET, spots, "new", item)]
    for place in range(layout.band - width + 1):
        if all(low[item] + layout.width(item) <= place or high[item] >= place + width for item in others):
            return place
    return None


def least_beside(layout, placed):
    """The least places of the others that avoid placed lights, slot by slot upwards, or None."""
    pairs = oracle.order_pairs(NET, layout.spots)
    spots = {**layout.spots, **{wish[0]: (wish[1], place) for wish, place in placed}}
    rates = {**layout.rates, **{wish[0]: wish[2] for wish, _ in placed}}
    row = {item: 0 for item in layout.spots}
    moved = True
    while moved:
        moved = False
        for item in row:
            spots[item] = (spots[item][0], row[item])
            pushed = any(row[lower] + layout.width(lower) > row[item] for lower, upper in pairs if upper == item)
            if pushed or any(oracle.clash_and_overlap(NET, rates, spots, item, wish[0]) for wish, _ in placed):
                row[item] += 1
                moved = True
                if row[item] + layout.width(item) > layout.band:
                    return None
    return row


class AnswersTest(unittest.TestCase):
    def test_places_after_ticks(self):
        for at, layout in enumerate(layouts(40, 700)):
            for ticks in (0, 1, 2, 3, at, 63, 10 ** 30):
                low, high = envelope(layout, ticks)
                self.assertEqual((low, high), (lowest(layout, ticks), highest(layout, ticks)))
                mirrored = envelope(layout.mirrored(), ticks)
                self.assertEqual(mirrored[0], {
                    item: layout.band - layout.width(item) - high[item] for item in high})

    def test_ticks_to_a_goal(self):
        for layout, goal in zip(layouts(40, 701), layouts(40, 702)):
            many = fewest_ticks(layout, goal)
            self.assertEqual(many, fewest_ticks(layout.mirrored(), goal.mirrored()))
            ahead = [ticks for ticks in (many - 1, many) if ticks >= 0 and all(
                lowest(layout, ticks)[item] <= goal[item][1] <= highest(layout, ticks)[item] for item in SPOTS)]
            self.assertEqual(ahead, [many])
            ticks = schedule(layout, goal)
            self.assertEqual(len(ticks), many)
            there = layout
            for tick in ticks:
                there = after_tick(there, *tick)
            self.assertEqual(there, goal)
            self.assertEqual(sum(map(len, ticks)), len(list(slides(layout, goal))))
            chain = wait_chain(layout, goal)
            self.assertEqual(least_ticks(layout, goal, chain) if many else chain, many or None)

    def test_room_and_lesser_bands(self):
        for at, layout in enumerate(layouts(12, 703)):
            for width, route in ((16, (0,)), (3 + at, (0, 1)), (40, (3,))):
                word, ticks, place, after = soonest(layout, ("new", route, min(width, 16)))
                self.assertEqual(place_after(layout, route, min(width, 16), ticks), place)
                if ticks:
                    self.assertIsNone(place_after(layout, route, min(width, 16), ticks - 1))
                self.assertIn("new", after.with_item("new", route, place, rate=min(width, 16)))
                self.assertLessEqual(fewest_ticks(layout, after), ticks)
            for band in (20, 30, 64):
                word, ticks, after = narrowed(layout, band)
                self.assertTrue(fits_after(layout, ticks, band))
                self.assertFalse(ticks and fits_after(layout, ticks - 1, band))
                self.assertLessEqual(fewest_ticks(layout, after.in_band(64)), ticks)

    def test_placed_wishes(self):
        rng = generator(709)
        words = {}
        for layout in layouts(90, 704):
            placed, place = [], 0
            for name in rng.choice([("new",), ("new", "old"), ("new", "old", "some"), ("new", "old", "some", "zero")]):
                place += rng.choice([0, 1, 1, 2, 5])
                rate = rng.randint(12, 15)
                placed.append(((name, (0, 1), rate), place))
                place += rate
            if place > 64:
                continue
            answer = room_at(layout, *placed)
            words[answer[0]] = words.get(answer[0], 0) + 1
            least = least_beside(layout, placed)
            if answer[0] == "barred":
                self.assertIsNone(least)
                self.assertIs(shows_throws(layout, tuple(placed), answer[1]), True)
            else:
                self.assertEqual(answer[0], "room")
                self.assertEqual({item: answer[1][item][1] for item in SPOTS}, least)
        self.assertGreater(min(words.values()), 5)
        self.assertEqual(set(words), {"room", "barred"})

    def test_pairs_of_places(self):
        net = Net([("a", "b", 5, "p"), ("a", "b", 5, "q"), ("a", "b", 5, "r")])
        rng = generator(705)
        for _ in range(12):
            rates = {name: rng.randint(1, 4) for name in "abcd"}
            spots = {"a": ((0,), 0), "b": ((0,), 4 + rng.randint(0, 3)), "c": ((1,), rng.randint(0, 6)),
                     "d": ((1,), 11)}
            layout = Layout(net, 16, rates, spots)
            wish, reserve = ("new", (0,), rng.randint(5, 9)), ("new*", (1,), None)
            answer = room_pair(layout, wish, (1,))
            pairs = [(one, other) for one in range(17 - wish[2]) for other in range(17 - wish[2])]
            found = [(one, other, room_at(layout, (wish, one), (reserve, other))) for one, other in pairs]
            right = [told for told in found if told[2][0] == "room"]
            if right:
                self.assertEqual(answer, ("room", *right[0][:2], right[0][2][1]))
            else:
                self.assertEqual(answer, ("barred", tuple(found)))


def worn(call):
    """The time that a call takes of this process."""
    start = time.process_time()
    call()
    return time.process_time() - start


def plain_loop():
    """Work of a known amount, by which the speed of the machine is judged."""
    found = {}
    for at in range(200000):
        found[at & 1023] = found.get(at & 511, 0) + at
    return found


class SpeedTest(unittest.TestCase):
    def test_some_hundred_calls_of_each(self):
        unit = min(worn(plain_loop) for _ in range(5))
        starts, goals = list(layouts(MANY, 706)), list(layouts(MANY, 707))
        chains = [wait_chain(start, goal) for start, goal in zip(starts, goals)]
        narrow = Layout(Net([("a", "b", 5, "p"), ("a", "b", 5, "q")]), 12, {"a": 6, "b": 3, "c": 2}, {
            "a": ((0,), 0), "b": ((1,), 0), "c": ((1,), 8)})
        firsts = [(schedule(start, goal) + [()])[0] for start, goal in zip(starts, goals)]
        # What a thousand calls take at most, in plain loops: some five times what they need.
        calls = {
            "envelope": (lambda at: envelope(fresh[at], at), 40),
            "after_tick": (lambda at: after_tick(fresh[at], *firsts[at]), 40),
            "fewest_ticks": (lambda at: fewest_ticks(fresh[at], goals[at]), 50),
            "schedule": (lambda at: schedule(fresh[at], goals[at]), 120),
            "wait_chain": (lambda at: wait_chain(fresh[at], goals[at]), 55),
            "least_ticks": (lambda at: least_ticks(fresh[at], goals[at], chains[at]), 20),
            "soonest": (lambda at: soonest(fresh[at], ("new", (0,), 16)), 90),
            "narrowed": (lambda at: narrowed(fresh[at], 30), 50),
            "room_at": (lambda at: room_at(fresh[at], (("new", (0,), 12), at & 31)), 45),
            "room_pair": (lambda at: room_pair(narrow, ("new", (0,), 8), (1,)), 60),
        }
        for name, (call, most) in calls.items():
            spent = []
            for _ in range(3):
                # Layouts that nothing has been asked of so far.
                fresh = [start.placed({}) for start in starts]
                spent.append(worn(lambda: [call(at) for at in range(MANY)]))
            # The least of several times, as other work of the machine can only add to them.
            self.assertLess(min(spent) / MANY * 1000, most * unit, name)

    def test_upwards_as_fast_as_downwards(self):
        starts = list(layouts(MANY, 708))
        low = [settled(start) for start in starts]
        high = [lifted(start) for start in starts]
        down = min(worn(lambda: [fewest_ticks(*pair) for pair in zip(starts, low)]) for _ in range(3))
        up = min(worn(lambda: [fewest_ticks(*pair) for pair in zip(starts, high)]) for _ in range(3))
        self.assertLess(up, 3 * down)
        self.assertLess(down, 3 * up)
