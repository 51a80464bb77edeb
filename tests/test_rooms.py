"""Promises [13] to [15], and [10] for what is returned: wishes, what bars places, room, placed wishes."""

import itertools
import unittest

from everlit.chains import highs, lows
from everlit.errors import InvalidWish, TooWide
from everlit.layouts import Layout
from everlit.nets import Net
from everlit.orders import order_of
from everlit.roomcheck import shows_barred, shows_throws
from everlit.rooms import bars, room, room_at, room_pair
from everlit.roomticks import soonest
from everlit.routes import routes_between
from tests import oracle
from tests.samples import STRANGE, crowd, generator, ladder, line
from tests.test_chains import places, stack
from tests.test_turned import small
from tests.trying import every_route, random_wish, spots_at, tried, with_wish


def crowded():
    """Twelve lights and twelve reserves in a full band of 12."""
    names = "abcdefghijkl"
    spots = {name: ((0,), at) for at, name in enumerate(names)}
    spots.update({name + "*": ((1,), 11 - at) for at, name in enumerate(names)})
    return Layout(line(), 12, dict.fromkeys(names, 1), spots)


def twined(net=None):
    """A layout whose signal a has a reserve that clashes with the light b until a twin ends that."""
    net = net or Net(("a", "b", 1, "p"), ("a", "b", 1, "q"), ("a", "b", 1, "r"))
    return Layout(net, 3, {"a": 1, "b": 1}, {"a": ((0,), 0), "a*": ((1,), 1), "b": ((1,), 0)})


class WishTest(unittest.TestCase):
    def wrong(self, word, layout, wish):
        calls = [
            lambda: bars(layout, wish), lambda: room(layout, wish), lambda: soonest(layout, wish),
            lambda: room_at(layout, (wish, 0)), lambda: shows_barred(layout, wish, ()),
            lambda: shows_throws(layout, ((wish, 0),), ()),
        ]
        for call in calls:
            with self.assertRaises(InvalidWish) as caught:
                call()
            self.assertEqual(caught.exception.word, word)

    def test_wish(self):
        layout = crowd()
        wrong = [
            ("new", (0,)), ("new", (0,), 1, 1), ["new", (0,), 1], ("one", (0,), 1), ("two+", (0, 2), None),
            ("one+", (0,), None), ("new+", (0,), None), ("new*", (0,), None), (["new"], (0,), 1), ("New", (0,), 1),
            ("", (0,), 1), (None, (0,), 1), ("new ", (0,), 1), (("new", (0,), 1),), ("newnewnew", (0,), 1),
        ]
        for wish in wrong + STRANGE:
            self.wrong("wish", layout, wish)
        for item in STRANGE:
            # A name that is free is an item that may be wished.
            if item != "a":
                self.wrong("wish", layout, (item, (0,), 1))

    def test_many(self):
        layout = crowded()
        self.wrong("many", layout, ("new", (0,), 1))
        self.wrong("many", layout, ("new", None, None))
        self.wrong("wish", layout, ("a", (0,), 1))
        self.assertEqual(bars(layout, ("a*", (2,), None)), [])
        self.assertEqual(room(layout, ("a*", (2,), None))[:2], ("room", 0))
        fewer = layout.without("l")
        self.assertEqual(room(fewer, ("l", (0,), 1))[:2], ("room", 0))

    def test_rate(self):
        layout = small()
        for rate in (None, True, 0, 17, -1, "1", (1,), [1], 10 ** 59):
            self.wrong("rate", layout, ("new", None, rate))
        for rate in (1, 0, True, False, (), "None"):
            self.wrong("rate", layout, ("b+", (0,), rate))
            self.wrong("rate", layout, ("a*", (), rate))
        self.assertEqual(room(layout.in_band(16), ("new", (2,), 16))[:2], ("room", 0))

    def test_route(self):
        layout = crowd()
        for route in STRANGE + [[0], (0, 1), (2, 0), (True,), (16,), (0, 0), (-1,)]:
            if route != (1,) or type(route[0]) is not int:
                self.wrong("route", layout, ("new", route, 1))
                self.wrong("route", layout, ("two*", route, None))
        self.wrong("route", layout, ("two*", (0,), None))
        self.wrong("route", layout, ("one*", (0, 2), None))
        self.wrong("route", layout.without("one+", "one*"), ("two+", (4,), None))

    def test_far_and_calls(self):
        layout = crowd()
        self.wrong("far", layout, ("new", (1, 5, 4), 1))
        self.wrong("far", layout, ("two*", (1, 5, 4), None))
        self.wrong("calls", layout, ("two*", (0, 2), None))
        self.wrong("calls", layout, ("wide*", (4,), None))
        # The twin of one on another duct has ended its calls.
        self.assertEqual(bars(layout, ("one*", (0,), None)), [])
        self.wrong("calls", layout.without("one+", "one*"), ("one*", (0,), None))

    def test_random_wishes(self):
        rng = generator(60)
        seen = {}
        for found in tried(61, 150, clashing=False):
            for _ in range(6):
                wish = random_wish(rng, found.layout)
                word = oracle.wish_word(found.layout.net, found.layout.rates, found.layout.spots, wish)
                seen[word] = seen.get(word, 0) + 1
                if word is None:
                    bars(found.layout, wish)
                else:
                    with self.assertRaises(InvalidWish) as caught:
                        bars(found.layout, wish)
                    self.assertEqual(caught.exception.word, word)
        self.assertTrue({"wish", "route", "far", "calls", None} <= set(seen))
        self.assertGreater(min(seen.values()), 5)


def free_places(found, wish):
    """The places that the wished item can have in some layout that slides of the others lead to [14]."""
    layout = found.layout
    reached = found.far(found.slid)
    free = []
    for place in range(layout.band):
        for told in reached:
            rates, spots = with_wish(layout, spots_at(found, told), wish, place)
            if oracle.fault(layout.net, layout.band, rates, spots) is None:
                free.append(place)
                break
    return free


def width_wished(layout, wish):
    rates, _ = with_wish(layout, {}, wish, 0)
    return rates[oracle.name_of(wish[0])] * oracle.factor(layout.net, wish[1])


def clash_wished(layout, wishes, item, wish):
    """Whether one of the others clashes with a wished item in the layout with all wished ones [13], [15]."""
    spots = layout.spots
    for told in wishes:
        spots[told[0]] = (told[1], 0)
    return item not in [told[0] for told in wishes] and oracle.clash(layout.net, spots, item, wish[0])


def right_wishes(seed, many, most=3, **how):
    """Small layouts, each with a wish that is right for it and has at most this rate."""
    rng = generator(seed)
    for found in tried(seed + 1000, many, **how):
        for _ in range(6):
            wish = random_wish(rng, found.layout, most)
            if oracle.wish_word(found.layout.net, found.layout.rates, found.layout.spots, wish) is None:
                yield found, wish
                break


class BarsTest(unittest.TestCase):
    def test_a_stack(self):
        layout = stack(1, 2, 1, band=8)
        self.assertEqual(bars(layout, ("d", (0,), 1)), [])
        self.assertEqual(bars(layout, ("d", (0,), 3)), [])
        self.assertEqual(bars(layout, ("d", (0,), 4)), [(2, 2, "b")])
        self.assertEqual(bars(layout, ("d", (0,), 5)), [(0, 0, "a"), (1, 2, "b"), (3, 3, "c")])
        self.assertEqual(bars(layout.in_band(6), ("d", (0,), 2)), [(2, 2, "b")])
        self.assertEqual(bars(layout.in_band(5), ("d", (0,), 1)), [(2, 2, "b")])
        self.assertEqual(bars(layout=layout.in_band(4), wish=("d", (0,), 1)),
                         [(0, 0, "a"), (1, 2, "b"), (3, 3, "c")])
        self.assertEqual(bars(layout.in_band(4), ("d", (1,), 1)), [])

    def test_a_wish_wider_than_the_band(self):
        layout = stack(1, 2, band=4)
        self.assertEqual(bars(layout, ("d", (0,), 5)), [])
        self.assertEqual(room(layout, ("d", (0,), 5))[0], "barred")
        self.assertEqual(soonest(layout, ("d", (0,), 5))[0], "barred")
        self.assertEqual(room(layout, ("d", (1,), 4))[:2], ("room", 0))

    def test_an_empty_layout(self):
        layout = Layout(line(), 3, {}, {})
        self.assertEqual(bars(layout, ("a", (0,), 3)), [])
        answer = room(layout, ("a", (0,), 3))
        self.assertEqual(answer, ("room", 0, Layout(line(), 3, {"a": 3}, {"a": ((0,), 0)})))
        self.assertEqual(room(layout, ("a", (0,), 4)), ("barred", ()))

    def test_against_the_definition(self):
        for found, wish in right_wishes(62, 150):
            layout = found.layout
            low, high, width = lows(layout), highs(layout), width_wished(layout, wish)
            rows = []
            for item in layout.spots:
                told = [place for place in range(layout.band - width + 1)
                        if clash_wished(layout, [wish], item, wish)
                        and low[item] + layout.width(item) > place and high[item] < place + width]
                if told:
                    self.assertEqual(told, list(range(told[0], told[-1] + 1)))
                    rows.append((told[0], told[-1], item))
            self.assertEqual(bars(layout, wish), sorted(rows))

    def test_against_all_slides_of_small_layouts(self):
        counts = {True: 0, False: 0}
        for found, wish in right_wishes(63, 80):
            layout = found.layout
            barred = {place for first, last, _ in bars(layout, wish) for place in range(first, last + 1)}
            span = range(layout.band - width_wished(layout, wish) + 1)
            free = free_places(found, wish)
            self.assertEqual([place for place in span if place not in barred], free)
            counts[bool(free)] += 1
        self.assertGreater(min(counts.values()), 5)


class RoomTest(unittest.TestCase):
    def test_others_slide_away(self):
        layout = stack(1, 2, 1, band=5).placed({"c": 4})
        word, place, after = room(layout, ("d", (0,), 1))
        self.assertEqual((word, place), ("room", 0))
        self.assertEqual(places(after), {"a": 1, "b": 2, "c": 4, "d": 0})
        self.assertEqual(after.rates["d"], 1)
        full = layout.in_band(5).with_item("d", (0,), 3, rate=1)
        self.assertEqual(room(full, ("e", (1,), 5))[:2], ("room", 0))
        told = room(full, ("e", (0,), 1))
        self.assertEqual(told[0], "barred")
        self.assertIs(shows_barred(full, ("e", (0,), 1), told[1]), True)

    def test_a_reserve_wished_elsewhere_goes(self):
        layout = small()
        word, place, after = room(layout, ("b*", (2,), None))
        self.assertEqual((word, place, after["b*"]), ("room", 0, ((2,), 0)))
        # Where it stands it clashes with nothing, so it may have its own place.
        tight = Layout(line(), 2, {"a": 1, "b": 2}, {"a": ((0,), 0), "b": ((2,), 0), "b*": ((1,), 0)})
        self.assertEqual(room(tight, ("b*", (1,), None)), ("room", 0, tight))

    def test_a_twin_that_ends_a_clash(self):
        layout = twined()
        self.assertEqual(order_of(layout).pairs, (("b", "a*"),))
        word, place, after = room(layout, ("a+", (2,), None))
        self.assertEqual((word, place, order_of(after).pairs), ("room", 0, ()))
        # For room the clash of the reserve and b counts among the others, so b cannot go up.
        full = layout.in_band(2)
        self.assertEqual(bars(full, ("a+", (1,), None)), [(0, 0, "b")])
        word, place, after = room(full, ("a+", (1,), None))
        self.assertEqual((word, place, places(after)), ("room", 1, {"a": 0, "a*": 1, "a+": 1, "b": 0}))

    def test_the_layout_that_is_returned(self):
        counts = {"room": 0, "barred": 0}
        for found, wish in right_wishes(64, 150):
            layout = found.layout
            before = str(layout)
            answer = room(layout, wish)
            self.assertEqual(answer, room(layout, wish))
            counts[answer[0]] += 1
            free = free_places(found, wish)
            if answer[0] == "barred":
                self.assertEqual((free, len(answer)), ([], 2))
                self.assertIs(shows_barred(layout, wish, answer[1]), True)
            else:
                _, place, after = answer
                self.assertEqual(place, free[0])
                self.has_slid(layout, after, [(wish, place)])
            self.assertEqual(str(layout), before)
        self.assertGreater(min(counts.values()), 20)

    def has_slid(self, layout, after, placed):
        """Checks that the others have slid only, and that the wished items are there."""
        rates, spots = layout.rates, layout.spots
        for (item, route, rate), place in placed:
            self.assertEqual(after[item], (route, place))
            spots[item] = (route, place)
            if rate is not None:
                rates[item] = rate
        self.assertEqual((after.net, after.band, after.rates), (layout.net, layout.band, rates))
        wanted = [wish[0] for wish, _ in placed]
        self.assertEqual(sorted(after.spots), sorted(spots))
        for item in layout.spots:
            self.assertEqual(after[item][0], spots[item][0])
        pairs = [pair for pair in order_of(layout).pairs if not set(pair) & set(wanted)]
        for lower, upper in pairs:
            self.assertLess(after[lower][1], after[upper][1])

    def test_the_order_of_what_is_returned(self):
        for found, wish in right_wishes(65, 60):
            answer = room(found.layout, wish)
            if answer[0] == "room":
                after = answer[2]
                low, high = lows(after), highs(after)
                self.assertTrue(order_of(after).fits(after.band))
                self.assertTrue(all(low[item] <= after[item][1] <= high[item] for item in after.spots))


def random_placed(rng, layout):
    """One to four placed wishes for different items that may be wrong in every way but their form."""
    placed = []
    for _ in range(rng.choice([1, 1, 2, 2, 3, 4])):
        wish = random_wish(rng, layout, 1)
        if placed and rng.random() < 0.3:
            wish = (rng.choice(placed)[0][0].rstrip("+*") + rng.choice("*+"), wish[1], None)
        if wish[0] not in [told[0][0] for told in placed]:
            placed.append((wish, rng.choice([-1, layout.band, *range(layout.band - 1)] + [0, 1] * 3)))
    return placed


def placed_word(layout, placed):
    """The first wrong word of placed wishes, each looked at as if the items of those ahead were there."""
    rates, spots = layout.rates, layout.spots
    for at, ((item, route, rate), _) in enumerate(placed):
        twisted = item[:-1] + {"*": "+", "+": "*"}.get(item[-1], "?")
        if twisted in [ahead[0][0] for ahead in placed[:at]]:
            return "wish"
        word = oracle.wish_word(layout.net, rates, spots, (item, route, rate))
        if word is not None:
            return word
        spots[item] = (route, 0)
        if rate is not None:
            rates[item] = rate
    return None


def placed_answer(found, placed):
    """What room_at must return by [15], with None for the steps of a bound."""
    layout = found.layout
    wishes = [wish for wish, _ in placed]
    rates, spots = layout.rates, layout.spots
    for (item, route, rate), place in placed:
        spots[item] = (route, place)
        if rate is not None:
            rates[item] = rate
    held = [oracle.held(layout.net, rates, spots, wish[0]) for wish in wishes]
    for index, slots in enumerate(held):
        if any(not 0 <= slot < layout.band for _, slot in slots):
            return ("over", index)
    for one, other in itertools.combinations(range(len(placed)), 2):
        if held[one] & held[other] and oracle.clash(layout.net, spots, wishes[one][0], wishes[other][0]):
            return ("overlap", one, other)
    fits = []
    for told in found.far(found.slid):
        there = spots_at(found, told)
        overlaps = [
            item for item in layout.spots for at, wish in enumerate(wishes)
            if clash_wished(layout, wishes, item, wish) and oracle.held(layout.net, rates, there, item) & held[at]]
        if not overlaps:
            fits.append(told)
    if not fits:
        return ("barred", None)
    least = tuple(map(min, zip(*fits)))
    assert least in fits
    others = {item: spot for item, spot in spots_at(found, least).items() if item not in [w[0] for w in wishes]}
    return ("room", Layout(layout.net, layout.band, rates, {**spots, **others}))


def bars_placed(layout, placed, steps):
    """Whether steps bar placed wishes, by [15]."""
    wishes = [wish for wish, _ in placed]
    pairs = order_of(layout).pairs
    if not steps or steps[0][0] != "first" or steps[0][1] not in layout:
        return False
    item, bound = steps[0][1], 0
    for word, value in steps[1:]:
        width = layout.width(item)
        if word == "pushed" and (item, value) in pairs:
            bound, item = bound + width, value
            continue
        if word != "thrown":
            return False
        wish, place = placed[value]
        wide = width_wished_among(layout, wishes, wish)
        if not clash_wished(layout, wishes, item, wish) or not place - width < bound < place + wide:
            return False
        bound = place + wide
    return bound > layout.band - layout.width(item)


def width_wished_among(layout, wishes, wish):
    rates = {**layout.rates, **{told[0]: told[2] for told in wishes if told[2] is not None}}
    return rates[oracle.name_of(wish[0])] * oracle.factor(layout.net, wish[1])


def right_placed(seed, many):
    """Small layouts with placed wishes that are right but for where they are placed."""
    rng = generator(seed)
    for found in tried(seed + 1000, many, items=(1, 3)):
        for _ in range(20):
            placed = random_placed(rng, found.layout)
            if placed_word(found.layout, placed) is None:
                yield found, placed


class RoomAtTest(unittest.TestCase):
    def wrong(self, word, layout, *placed):
        with self.assertRaises(InvalidWish) as caught:
            room_at(layout, *placed)
        self.assertEqual(caught.exception.word, word)

    def test_the_least_layout(self):
        layout = stack(1, 1, 1, band=8).placed({"a": 3, "b": 5, "c": 7})
        word, after = room_at(layout, (("d", (0,), 2), 1))
        self.assertEqual((word, places(after)), ("room", {"a": 0, "b": 3, "c": 4, "d": 1}))
        word, after = room_at(layout, [(("d", (0,), 2), 0), (("e", (0,), 1), 3)])
        self.assertEqual((word, places(after)), ("room", {"a": 2, "b": 4, "c": 5, "d": 0, "e": 3}))

    def test_over_and_overlap(self):
        layout = stack(1, band=8)
        wide, thin = ("d", (0,), 3), ("e", (0,), 1)
        self.assertEqual(room_at(layout, (wide, 6)), ("over", 0))
        self.assertEqual(room_at(layout, (thin, 0), (wide, -1)), ("over", 1))
        self.assertEqual(room_at(layout, (thin, 10 ** 59), (wide, -1)), ("over", 0))
        self.assertEqual(room_at(layout, (thin, 2), (wide, 2)), ("overlap", 0, 1))
        self.assertEqual(room_at(layout, [(thin, 2)], (wide, 6)), ("over", 1))
        self.assertEqual(room_at(layout, (wide, 0), (thin, 5), (("f", (0,), 2), 2), (("g", (0,), 4), 4)),
                         ("overlap", 0, 2))
        self.assertEqual(room_at(layout, (thin, 7), (wide, 0), (("f", (0,), 2), 4), (("g", (0,), 4), 4)),
                         ("overlap", 0, 3))
        # Those that do not clash may overlap.
        self.assertEqual(room_at(layout, (wide, 0), (("d*", (1,), None), 0))[0], "room")

    def test_barred(self):
        layout = stack(2, 2, band=5)
        placed = ((("d", (0,), 1), 1),)
        word, steps = room_at(layout, *placed)
        self.assertEqual(word, "barred")
        self.assertTrue(bars_placed(layout, placed, steps))
        self.assertEqual(steps, (("first", "a"), ("thrown", 0), ("pushed", "b")))
        self.assertIs(shows_throws(layout, placed, steps), True)

    def test_wishes_are_looked_at_in_order(self):
        layout = small()
        light, reserve = ("n", (0,), 1), ("n*", (1,), None)
        self.assertEqual(room_at(layout, (light, 7), (reserve, 0))[0], "room")
        self.wrong("wish", layout, (reserve, 0), (light, 0))
        self.wrong("calls", layout, (light, 7), (("n*", (0,), None), 0))
        self.wrong("rate", layout, (("n", (0,), 0), 7), (("n*", (0,), None), 0))
        self.wrong("wish", layout, (("a+", (1,), None), 7), (("b+", (1,), None), 0))
        self.wrong("wish", layout, (("n+", (1,), None), 7))
        self.assertEqual(room_at(layout, (light, 7), (("n+", (1,), None), 0))[0], "room")

    def test_a_twin_and_the_reserve_of_its_signal(self):
        layout = small()
        twin, reserve = ("b+", (2,), None), ("b*", (1,), None)
        self.wrong("wish", layout, (twin, 0), (reserve, 0))
        self.wrong("wish", layout, (reserve, 0), (twin, 0))
        # Ahead of the other words of the later one, behind those of the earlier one.
        self.wrong("wish", layout, (twin, 0), (("b*", None, None), 0))
        self.wrong("route", layout, (("b+", None, None), 0), (reserve, 0))
        self.wrong("rate", layout, (twin, 0), (("c", (0,), 0), 0), (reserve, 0))
        self.assertEqual(room_at(layout, (twin, 0), (("a*", (1,), None), 0))[0], "room")

    def test_a_placed_wish_that_is_none(self):
        wish = ("n", (2,), 1)
        for placed in (wish, (wish,), (wish, True), (wish, "0"), (wish, 0, 0), (wish, None), None):
            self.wrong("wish", small(), placed)
            self.wrong("wish", small(), (wish, 0), placed)

    def test_twelve_signals(self):
        layout = crowded().without("k", "l")
        wishes = [((name, (2,), 1), at) for at, name in enumerate("klm")]
        self.wrong("many", layout, *wishes)
        self.assertEqual(room_at(layout, *wishes[:2])[0], "room")
        self.wrong("many", crowded(), (("m", (2,), 1), 0))

    def test_a_reserve_wished_elsewhere(self):
        # Where it stands, the reserve of b bars nothing, but it still pushes what lies above it.
        spots = {"a": ((1,), 1), "b": ((0,), 0), "b*": ((1,), 0)}
        layout = Layout(line(), 4, {"a": 1, "b": 1}, spots)
        word, after = room_at(layout, (("b*", (2,), None), 3), (("n", (1,), 1), 0))
        self.assertEqual((word, places(after)), ("room", {"a": 1, "b": 0, "b*": 3, "n": 0}))

    def test_an_empty_layout(self):
        layout = Layout(line(), 1, {}, {})
        told = room_at(layout, (("a", (0,), 1), 0), (("b", (1,), 1), 0))
        self.assertEqual(told, ("room", Layout(line(), 1, {"a": 1, "b": 1}, {"a": ((0,), 0), "b": ((1,), 0)})))
        self.assertEqual(room_at(layout, (("a", (0,), 2), 0)), ("over", 0))

    def test_words_of_random_placed_wishes(self):
        rng = generator(66)
        seen = {}
        for found in tried(67, 150, clashing=False):
            for _ in range(6):
                placed = random_placed(rng, found.layout)
                word = placed_word(found.layout, placed)
                seen[word] = seen.get(word, 0) + 1
                if word is not None:
                    self.wrong(word, found.layout, *placed)
        self.assertTrue({"wish", "route", "far", "calls", None} <= set(seen))

    def test_against_all_slides_of_small_layouts(self):
        seen = {}
        for found, placed in right_placed(68, 120):
            expected = placed_answer(found, placed)
            answer = room_at(found.layout, *placed)
            self.assertEqual(answer, room_at(found.layout, placed))
            seen[answer[0]] = seen.get(answer[0], 0) + 1
            if expected[0] == "barred":
                self.assertEqual((answer[0], len(answer)), ("barred", 2))
                self.assertTrue(bars_placed(found.layout, placed, answer[1]))
                self.assertIs(shows_throws(found.layout, tuple(placed), answer[1]), True)
            else:
                self.assertEqual(answer, expected)
        self.assertGreater(min(seen.values()), 8)
        self.assertEqual(set(seen), {"over", "overlap", "room", "barred"})


class RoomPairTest(unittest.TestCase):
    def expected(self, layout, wish, route):
        """By the document: what room_at says of each pair of places within the band."""
        reserve = (wish[0] + "*", route, None)
        rows = []
        width = wish[2] * oracle.factor(layout.net, wish[1])
        wide = wish[2] * oracle.factor(layout.net, route)
        for place in range(layout.band - width + 1):
            for other in range(layout.band - wide + 1):
                answer = room_at(layout, (wish, place), (reserve, other))
                if answer[0] == "room":
                    return ("room", place, other, answer[1])
                rows.append((place, other, answer))
        return ("barred", tuple(rows))

    def test_random_layouts(self):
        rng = generator(69)
        seen = {"room": 0, "barred": 0}
        for found in tried(70, 200, clashing=False):
            layout = found.layout
            routes = every_route(layout.net)
            wish, route = ("new", rng.choice(routes), rng.randint(1, 3)), rng.choice(routes)
            word = placed_word(layout, [(wish, 0), (("new*", route, None), 0)])
            if word is not None:
                with self.assertRaises(InvalidWish) as caught:
                    room_pair(layout, wish, route)
                self.assertEqual(caught.exception.word, word)
                continue
            answer = room_pair(layout, wish, route)
            self.assertEqual(answer, self.expected(layout, wish, route))
            seen[answer[0]] += 1
            if answer[0] == "room":
                RoomTest.has_slid(self, layout, answer[3], [(wish, answer[1]), (("new*", route, None), answer[2])])
        self.assertGreater(min(seen.values()), 5)

    def test_no_pair_within_the_band(self):
        layout = Layout(line(), 3, {}, {})
        self.assertEqual(room_pair(layout, ("a", (0,), 4), (1,)), ("barred", ()))
        answer = room_pair(layout=layout, wish=("a", (0,), 3), route=(1,))
        self.assertEqual(answer, ("room", 0, 0, Layout(line(), 3, {"a": 3}, {"a": ((0,), 0), "a*": ((1,), 0)})))

    def test_all_pairs_of_a_full_band(self):
        layout = crowded().without("l")
        word, place, other, _ = room_pair(layout, ("l", (0,), 1), (2,))
        self.assertEqual((word, place, other), ("room", 0, 0))
        tight = layout.without("b*")
        answer = room_pair(tight, ("n", (0,), 2), (2,))
        self.assertEqual(answer[0], "barred")
        self.assertEqual([row[:2] for row in answer[1]], list(itertools.product(range(11), repeat=2)))
        for place, other, (word, steps) in answer[1][::17]:
            placed = ((("n", (0,), 2), place), (("n*", (2,), None), other))
            self.assertEqual(word, "barred")
            self.assertIs(shows_throws(tight, placed, steps), True)

    def test_errors(self):
        layout = small().in_band(17)
        with self.assertRaises(TooWide) as caught:
            room_pair(layout, ("n", (0,), 1), (1,))
        self.assertEqual(caught.exception.limit, 16)
        self.assertEqual(room_pair(layout.in_band(16), ("n", (0,), 1), (1,))[0], "room")
        told = [
            ("wish", ("b+", (0,), None), (1,)), ("wish", ("a*", (1,), None), (1,)), ("wish", ("a*", None, 7), ()),
            ("wish", None, (1,)), ("wish", ("n", (0,)), (1,)), ("wish", ["n", (0,), 1], (1,)),
            ("wish", ("a", (0,), 1), (1,)), ("rate", ("n", (0,), None), (9,)), ("route", ("n", (9,), 1), (0,)),
            ("route", ("n", (0,), 1), (9,)), ("route", ("n", (0,), 1), [1]), ("route", ("n", (0,), 1), None),
            ("calls", ("n", (0,), 1), (0,)), ("route", ("n", (0,), 1), (True,)),
        ]
        for word, wish, route in told + [("wish", wish, (1,)) for wish in STRANGE]:
            with self.assertRaises(InvalidWish) as caught:
                room_pair(layout, wish, route)
            self.assertEqual(caught.exception.word, word)
        for route in STRANGE:
            if route != (1,):
                self.assertRaises(InvalidWish, room_pair, layout, ("n", (0,), 1), route)
        far = Layout(ladder(), 16, {}, {})
        with self.assertRaises(InvalidWish) as caught:
            room_pair(far, ("n", (0, 2, 4), 1), (1, 5, 4))
        self.assertEqual(caught.exception.word, "route")
        ends = list(routes_between(ladder(), "a", "c"))
        self.assertIn((1, 5, 4), ends)
        with self.assertRaises(InvalidWish) as caught:
            room_pair(far, ("n", (0, 2), 1), (1, 5, 4))
        self.assertEqual(caught.exception.word, "far")
