"""Promise [18]: moves, when they are allowed and what changes; [5] to [8] of what results."""

import unittest

from everlit.errors import NotAllowed
from everlit.layouts import Layout
from everlit.moves import barrier, done, free_places, is_move, undone
from everlit.nets import Net
from tests import oracle
from tests.samples import STRANGE, crowd, generator, line
from tests.test_chains import places, stack
from tests.test_layout_methods import random_layout
from tests.test_rooms import crowded, twined
from tests.test_turned import small
from tests.trying import every_route, kinds_spoiled

RIGHT = [
    ("slide", "a", 1), ("slide", "abcdefgh*", -1), ("slide", "b+", 1), ("light", "a", (0,), 0), ("out", "a"),
    ("light", "b", tuple(range(16)), 63), ("quit", "zzzzzzzz"), ("move", "a", (15, 0), 63), ("drop", "out"),
    ("guard", "a", (3, 3), 1), ("begin", "a", 1, (0,), 0), ("begin", "a", 16, (15,), 63), ("end", "a"),
]


def word_by_document(layout, move):
    """The word of a move that has the form of one, by [18] and the interface."""
    word, name = move[0], move[1]
    rates, spots = layout.rates, layout.spots
    twins = [item for item in spots if item.endswith("+")]
    if (name in spots) == (word == "begin"):
        return "item"
    if word == "light" and twins or word in ("out", "quit") and name + "+" not in spots:
        return "twin"
    if word in ("move", "drop") and name + "*" not in spots or word == "guard" and name + "*" in spots:
        return "reserve"
    if word == "begin" and len(rates) == 12:
        return "many"
    rates, spots = behind(layout, move)
    fault = oracle.fault(layout.net, layout.band, rates, spots)
    return fault and fault[0]


def behind(layout, move):
    """The rates and spots behind a move, by the table of [18]."""
    rates, spots = layout.rates, layout.spots
    word, name = move[0], move[1]
    if word == "slide":
        spots[name] = (spots[name][0], spots[name][1] + move[2])
    elif word == "light":
        spots[name + "+"] = (move[2], move[3])
    elif word == "out":
        spots[name] = spots.pop(name + "+")
    elif word == "quit":
        del spots[name + "+"]
    elif word in ("move", "guard"):
        spots[name + "*"] = (move[2], move[3])
    elif word == "drop":
        del spots[name + "*"]
    elif word == "begin":
        rates[name], spots[name] = move[2], (move[3], move[4])
    else:
        del rates[name]
        for item in (name, name + "+", name + "*"):
            spots.pop(item, None)
    return rates, spots


def random_move(rng, layout):
    """A move that has the form of one and is often allowed."""
    routes = every_route(layout.net) + [(0,), (15,), (0, 0)]
    name = rng.choice([*layout.signals, *layout.signals, "new"])
    word = rng.choice(["slide", "slide", "light", "light", "out", "quit", "move", "guard", "drop", "begin", "end"])
    if layout.doubled and rng.random() < 0.5:
        word, name = rng.choice(["out", "quit", "slide"]), layout.doubled
    elif name + "*" in layout and rng.random() < 0.5:
        word = rng.choice(["move", "move", "drop"])
    if word == "slide":
        return (word, rng.choice([*layout.spots, name]), rng.choice((1, -1)))
    spot = (rng.choice(routes), rng.randrange(layout.band + 1))
    same = [route for route in routes[:-3] if name in layout and oracle.ends_of(layout.net, route)
            == oracle.ends_of(layout.net, layout[name][0])]
    if same and rng.random() < 0.8:
        spot = (rng.choice(same), rng.randrange(layout.band))
    if word in ("light", "move", "guard"):
        return (word, name, *spot)
    return (word, rng.choice([name, "new"]), rng.randint(1, 3), *spot) if word == "begin" else (word, name)


class IsMoveTest(unittest.TestCase):
    def test_right_ones(self):
        for move in RIGHT:
            self.assertIs(is_move(move), True)
        self.assertIs(is_move(value=("end", "a")), True)

    def test_wrong_ones(self):
        wrong = [
            ("slide", "a", 0), ("slide", "a", 2), ("slide", "a", True), ("slide", "A", 1), ("slide", "a", "up"),
            ("light", "a+", (0,), 0), ("light", "a", (), 0), ("light", "a", (16,), 0), ("light", "a", (0,), 64),
            ("light", "a", (0,), -1), ("light", "a", (0,), True), ("light", "a", [0], 0), ("light", "a", (True,), 0),
            ("light", "a", tuple(range(16)) + (0,), 0), ("light", "a", (-1,), 0), ("light", "a", 0, 0),
            ("begin", "a", 0, (0,), 0), ("begin", "a", 17, (0,), 0), ("begin", "a", True, (0,), 0),
            ("begin", "a", None, (0,), 0), ("begin", "a", (0,), 0), ("end", "a*"), ("end", ""), ("end", None),
            ("out", ["a"]), (["out"], "a"), ("Out", "a"), ("cut", "a"), ("band", 3), (None, "a"), ((), "a"),
            ("out",), ("slide",), ("light", "a", (0,), 10 ** 59), ("drop", "abcdefghi"), ("", "a"),
        ]
        for value in wrong + STRANGE:
            self.assertIs(is_move(value), False)
            self.assertEqual(barrier(crowd(), value), "form")

    def test_kinds_and_parts(self):
        for move in RIGHT:
            for value in kinds_spoiled(move):
                told = is_move(value)
                # A fibre more or less may still be a route in form.
                same = type(value) is tuple and len(value) == len(move) and [type(part) for part in value] == [
                    type(part) for part in move]
                self.assertIs(told, same and all(
                    type(index) is int for part in value if type(part) is tuple for index in part)
                    and all(1 <= len(part) <= 16 for part in value if type(part) is tuple))


class BarrierTest(unittest.TestCase):
    def barred(self, word, layout, move):
        self.assertEqual(barrier(layout, move), word)
        for call in (done, undone):
            with self.assertRaises(NotAllowed) as caught:
                call(layout, move)
            self.assertEqual((caught.exception.index, caught.exception.word), (0, word))

    def test_form(self):
        for value in STRANGE + [["end", "one"], ("end", "one", None)]:
            self.barred("form", crowd(), value)

    def test_item(self):
        for move in (("slide", "two+", 1), ("slide", "new", 1), ("light", "new", (0,), 0), ("out", "new"),
                     ("quit", "new"), ("move", "new", (0,), 0), ("guard", "new", (0,), 0), ("drop", "new"),
                     ("end", "new"), ("begin", "one", 1, (0,), 0)):
            self.barred("item", crowd(), move)
        # What comes ahead in the row of the words is told.
        self.barred("item", crowded(), ("begin", "a", 1, (9,), 0))
        self.barred("item", crowd(), ("light", "new", (9,), 63))

    def test_twin(self):
        for name in ("one", "two"):
            self.barred("twin", crowd(), ("light", name, (9,), 63))
        self.barred("twin", crowd(), ("out", "two"))
        self.barred("twin", crowd(), ("quit", "wide"))
        self.barred("twin", small(), ("quit", "a"))

    def test_reserve(self):
        self.barred("reserve", crowd(), ("move", "two", (9,), 63))
        self.barred("reserve", crowd(), ("drop", "two"))
        self.barred("reserve", crowd(), ("guard", "one", (9,), 63))

    def test_many(self):
        layout = crowded()
        self.barred("many", layout, ("begin", "new", 1, (9,), 63))
        eleven = layout.without("l")
        self.assertIsNone(barrier(eleven, ("begin", "new", 1, (0,), 11)))
        self.barred("overlap", eleven, ("begin", "new", 1, (0,), 10))
        # The other moves are not barred by twelve signals.
        bare = layout.without("a*")
        for move in (("light", "a", (2,), 0), ("guard", "a", (2,), 0), ("move", "b", (2,), 0), ("drop", "b"),
                     ("end", "l")):
            self.assertIsNone(barrier(bare, move))
        doubled = done(bare, ("light", "a", (2,), 0))
        for move in (("out", "a"), ("quit", "a"), ("slide", "a+", 1)):
            self.assertIsNone(barrier(doubled, move))

    def test_words_of_what_would_result(self):
        layout = crowd().without("one+", "one*")
        self.barred("route", layout, ("light", "two", (2, 0), 0))
        self.barred("route", layout, ("begin", "new", 1, (6,), 0))
        self.barred("far", layout, ("light", "two", (1, 5, 4), 0))
        self.barred("ends", layout, ("light", "two", (0,), 0))
        self.barred("ends", layout, ("guard", "two", (4,), 0))
        self.barred("place", layout, ("light", "two", (3,), 9))
        self.barred("place", layout, ("slide", "one", -1))
        self.barred("calls", layout, ("guard", "two", (3,), 0))
        self.barred("overlap", layout, ("slide", "one", 1))
        self.barred("overlap", layout, ("slide", "two", -1))
        self.barred("place", layout, ("guard", "two", (3,), 63))

    def test_out_and_quit_may_be_barred_as_the_calls_grow(self):
        net = Net(("a", "b", 1, "p"), ("a", "b", 1, "q"), ("a", "b", 1, "r"))
        spots = {"a": ((0,), 0), "a+": ((1,), 0), "a*": ((0,), 1), "b": ((2,), 0)}
        layout = Layout(net, 4, {"a": 1, "b": 1}, spots)
        self.barred("calls", layout, ("quit", "a"))
        self.assertIsNone(barrier(layout, ("out", "a")))
        spots = {"a": ((0,), 0), "a+": ((1,), 0), "a*": ((2,), 1), "b": ((2,), 1)}
        layout = Layout(net, 4, {"a": 1, "b": 1}, spots)
        self.barred("overlap", layout, ("quit", "a"))
        self.barred("overlap", layout, ("out", "a"))
        # After a slide both are allowed.
        after = done(layout, ("slide", "b", 1))
        self.assertEqual(done(after, ("out", "a")).spots["a"], ((1,), 0))
        self.assertEqual(done(after, ("quit", "a")).spots["a"], ((0,), 0))

    def test_drop_and_end_are_always_allowed(self):
        rng = generator(90)
        for _ in range(60):
            layout = random_layout(rng)
            for name in layout.signals:
                self.assertIsNone(barrier(layout, ("end", name)))
                after = done(layout, ("end", name))
                self.assertEqual(after, layout.without(name))
                if name + "*" in layout:
                    self.assertIsNone(barrier(layout, ("drop", name)))
                    self.assertEqual(done(layout, ("drop", name)), layout.without(name + "*"))

    def test_each_move(self):
        layout = crowd()
        self.assertEqual(places(done(layout, ("slide", "one+", -1)))["one+"], 0)
        after = done(layout.without("two"), ("out", "one"))
        self.assertEqual((after["one"], after.doubled, after["one*"]), (((1,), 1), None, ((3, 2), 4)))
        self.barred("calls", layout, ("quit", "one"))
        after = done(layout.without("one*"), ("quit", "one"))
        self.assertEqual((after["one"], after.doubled), (((0,), 0), None))
        self.assertEqual(done(after, ("light", "one", (1,), 5))["one+"], ((1,), 5))
        self.assertEqual(done(layout, ("move", "one", (3, 2), 3))["one*"], ((3, 2), 3))
        self.assertEqual(done(layout, ("drop", "wide")), layout.without("wide*"))
        after = done(layout, ("begin", "new", 3, (4,), 0))
        self.assertEqual((after["new"], after.rates["new"], after.width("new")), (((4,), 0), 3, 3))
        self.assertEqual(done(layout=after, move=("end", "new")), layout)
        self.assertEqual(done(layout, ("end", "one")), layout.without("one"))
        self.assertEqual(layout, crowd())
        self.assertEqual(done(small(), ("guard", "a", (1,), 0))["a*"], ((1,), 0))

    def test_a_reserve_moves_to_slots_it_had(self):
        layout = small()
        self.assertEqual(done(layout, ("move", "b", (1,), 3)), layout)
        self.assertEqual(done(layout, ("move", "b", (1,), 4))["b*"], ((1,), 4))
        self.assertEqual(undone(layout, ("move", "b", (1,), 4)), ("move", "b", (1,), 3))

    def test_a_twin_that_ends_clashes(self):
        layout = twined()
        self.barred("overlap", layout, ("slide", "b", 1))
        after = done(layout, ("light", "a", (2,), 0))
        self.assertIsNone(barrier(after, ("slide", "b", 1)))

    def test_random_moves_against_the_document(self):
        rng = generator(91)
        seen = {}
        for _ in range(2500):
            layout = random_layout(rng, rng.choice([3, 5, 8]))
            move = random_move(rng, layout)
            self.assertIs(is_move(move), True)
            word = word_by_document(layout, move)
            seen[move[0], word] = seen.get((move[0], word), 0) + 1
            self.assertEqual(barrier(layout, move), word)
            if word is not None:
                self.barred(word, layout, move)
                continue
            rates, spots = behind(layout, move)
            after = done(layout, move)
            self.assertEqual(after, Layout(layout.net, layout.band, rates, spots))
            self.assertTrue(oracle.survives(layout.net, after.rates, after.spots))
            self.undone_is_right(layout, move, after)
        allowed = {told for told in seen if told[1] is None}
        self.assertEqual(len(allowed), 9)
        for told in (("out", "calls"), ("quit", "calls"), ("slide", "place"), ("slide", "overlap"),
                     ("light", "overlap"), ("guard", "calls"), ("move", "overlap"), ("begin", "route")):
            self.assertIn(told, seen)

    def undone_is_right(self, layout, move, after):
        again = undone(layout, move)
        if move[0] == "out" or move[0] == "end" and len(layout) - len(after) > 1:
            self.assertIsNone(again)
            return
        self.assertEqual(done(after, again), layout)
        word = {"light": "quit", "quit": "light", "drop": "guard", "guard": "drop", "end": "begin", "begin": "end"}
        self.assertEqual(again[0], word.get(move[0], move[0]))


class FreePlacesTest(unittest.TestCase):
    def test_places(self):
        layout = stack(1, 2, band=8).placed({"b": 4})
        self.assertEqual(free_places(layout, "begin", "c", (0,), rate=1), (1, 2, 3, 6, 7))
        self.assertEqual(free_places(layout, "begin", "c", (0,), rate=3), (1,))
        self.assertEqual(free_places(layout, "begin", "c", (0,), rate=4), ())
        self.assertEqual(free_places(layout=layout, word="light", name="b", route=(0,)), (1, 2, 6))
        self.assertEqual(free_places(layout, "guard", "b", (1,)), tuple(range(7)))
        self.assertEqual(free_places(small(), "move", "b", (1,)), tuple(range(7)))

    def test_nothing_is_raised(self):
        layout = crowd()
        for word, name, route in (("light", "one", (0,)), ("light", "new", (0,)), ("move", "two", (0, 2)),
                                  ("guard", "one", (0,)), ("guard", "two", (9,)), ("guard", "two", (1, 5, 4))):
            self.assertEqual(free_places(layout, word, name, route), ())
        for value in STRANGE:
            self.assertEqual(free_places(layout, "guard", value, (0,)), ())
            self.assertEqual(free_places(layout, "begin", "new", (0,), rate=value), free_places(
                layout, "begin", "new", (0,), rate=1) if value is not True and value == 1 else ())
            if value != (1,):
                self.assertEqual(free_places(layout, "guard", "two", value), ())
        self.assertEqual(free_places(crowded(), "begin", "new", (2,), rate=1), ())
        self.assertEqual(free_places(layout, "begin", "new", (0,)), ())

    def test_a_band_of_64(self):
        layout = Layout(line(), 64, {}, {})
        self.assertEqual(free_places(layout, "begin", "a", (0,), rate=1), tuple(range(64)))
        self.assertEqual(free_places(layout.in_band(1), "begin", "a", (0,), rate=1), (0,))

    def test_random_layouts(self):
        rng = generator(92)
        for _ in range(150):
            layout = random_layout(rng, rng.choice([3, 5]))
            if not layout.signals:
                continue
            name, route = rng.choice(layout.signals), rng.choice(every_route(layout.net))
            for word in ("light", "move", "guard"):
                told = [place for place in range(64) if word_by_document(layout, (word, name, route, place)) is None]
                self.assertEqual(free_places(layout, word, name, route), tuple(told))
            told = [place for place in range(64) if word_by_document(layout, ("begin", "n", 2, route, place)) is None]
            self.assertEqual(free_places(layout, "begin", "n", route, rate=2), tuple(told))
