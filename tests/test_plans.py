"""Promises [18], [8] and [11]: plans, what they lead to, hops, and the way back."""

import unittest

from everlit.errors import NotAllowed
from everlit.layouts import Layout
from everlit.moves import barrier, done, undone
from everlit.plans import always_lit, back, hop, hops_in, plan_fault, play, stages, tally
from everlit.slides import slides
from tests import oracle
from tests.samples import STRANGE, crowd, generator, line
from tests.test_chains import stack
from tests.test_layout_methods import random_layout
from tests.test_moves import random_move
from tests.test_turned import small

PLAN = (
    ("light", "b", (2,), 0), ("slide", "b+", 1), ("out", "b"), ("slide", "a", 1), ("begin", "c", 1, (1,), 0),
    ("move", "b", (1,), 5), ("drop", "b"), ("guard", "a", (1,), 3), ("end", "b"), ("slide", "c", 1),
)


def random_plan(rng, layout, many, allowed=True):
    """Moves of which most, or all, are allowed."""
    moves = []
    while len(moves) < many:
        move = random_move(rng, layout)
        if barrier(layout, move) is None:
            layout = done(layout, move)
            moves.append(move)
        elif not allowed and rng.random() < 0.02:
            moves.append(move)
            break
    return moves


class PlayTest(unittest.TestCase):
    def barred(self, index, word, layout, *moves):
        calls = (play, lambda *told: next(stages(*told)), back, always_lit)
        for call in calls:
            with self.assertRaises(NotAllowed) as caught:
                call(layout, *moves)
            self.assertEqual((caught.exception.index, caught.exception.word), (index, word))

    def test_no_moves(self):
        for layout in (crowd(), Layout(line(), 1, {}, {})):
            self.assertEqual(play(layout), layout)
            self.assertEqual(play(layout, []), layout)
            self.assertEqual(list(stages(layout)), [layout])
            self.assertEqual(back(layout), ())
            self.assertEqual(always_lit(layout), layout.signals)
            self.assertIsNone(plan_fault(layout, layout, ()))
            self.assertIsNone(plan_fault(layout, layout, []))

    def test_a_plan(self):
        layout = small()
        after = play(layout, *PLAN)
        expected = Layout(line(), 8, {"a": 1, "c": 1}, {"a": ((0,), 1), "a*": ((1,), 3), "c": ((1,), 1)})
        self.assertEqual(after, expected)
        self.assertEqual(play(layout, list(PLAN)), expected)
        self.assertEqual(play(layout, PLAN[0], list(PLAN[1:4]), [], *PLAN[4:]), expected)
        self.assertEqual(layout, small())
        found = list(stages(layout, *PLAN))
        self.assertEqual((len(found), found[0], found[-1]), (11, layout, expected))
        self.assertEqual(found[3]["b"], ((2,), 1))
        told = list(PLAN)
        self.assertEqual(list(stages(layout, told[:2], *told[2:])), found)
        self.assertEqual(told, list(PLAN))

    def test_the_first_move_that_is_not_allowed(self):
        layout = small()
        self.barred(0, "form", layout, "slide")
        self.barred(0, "form", layout, ["slide", "a", 1])
        self.barred(1, "form", layout, ("slide", "b", 1), ("slide", "b", True), ("end", "zz"))
        self.barred(2, "form", layout, ("slide", "b", 1), [("slide", "b", 1), ["end", "a"]])
        self.barred(1, "item", layout, ("end", "a"), ("end", "a"))
        self.barred(1, "twin", layout, ("light", "a", (2,), 0), ("light", "b", (2,), 3))
        self.barred(len(PLAN), "item", layout, list(PLAN), ("end", "b"))
        self.barred(3, "overlap", layout, *PLAN[:3], ("light", "b", (2,), 2))
        self.barred(1, "overlap", layout, ("slide", "b", 1), ("light", "a", (0,), 2))
        self.barred(3, "overlap", layout, *[("slide", "b", 1)] * 3, ("begin", "c", 2, (0,), 3))
        self.barred(5, "place", layout, [("slide", "b", 1)] * 7)
        self.barred(2, "overlap", layout, ("slide", "b", 1), ("slide", "a", 1), ("slide", "a", 1))
        self.barred(1, "item", layout, ("slide", "b", 1), ("slide", "c", 1))

    def test_any_value(self):
        for value in STRANGE:
            if not isinstance(value, list):
                self.barred(0, "form", small(), value)
                self.barred(1, "form", small(), ("slide", "b", 1), value, ("end", "a"))
            else:
                self.barred(0, "form", small(), [value])

    def test_what_slides_behind_another_move(self):
        # The clashes of a reserve change with the twin of its signal and with its own route.
        layout = small().placed({"a": 0})
        layout = layout.with_item("a*", (2,), 0).with_item("c", (2,), 1, rate=1)
        self.barred(0, "overlap", layout, ("slide", "c", -1))
        after = play(layout, ("light", "a", (1,), 0), ("slide", "c", -1))
        self.assertEqual(after["c"], ((2,), 0))
        self.barred(2, "overlap", layout, ("light", "a", (1,), 0), ("slide", "c", -1), ("out", "a"))
        self.barred(3, "overlap", layout, ("light", "a", (1,), 0), ("out", "a"), ("slide", "b", 1),
                    ("slide", "c", -1))

    def test_stages_may_be_asked_by_turns(self):
        one, other = stages(small(), ("slide", "b", 1)), stages(crowd(), ("end", "one"))
        self.assertEqual([next(one), next(other)], [small(), crowd()])
        self.assertEqual([next(other), next(one)], [crowd().without("one"), small().placed({"b": 2})])

    def test_stages_read_their_arguments_once(self):
        moves = [("slide", "b", 1)]
        found = stages(small(), moves)
        next(found)
        moves.clear()
        self.assertEqual(next(found), small().placed({"b": 2}))

    def test_random_plans(self):
        rng = generator(95)
        words = {}
        for _ in range(150):
            layout = random_layout(rng, rng.choice([4, 6]))
            moves = random_plan(rng, layout, 12, allowed=False)
            word, reached = None, [layout]
            for move in moves:
                word = barrier(reached[-1], move)
                if word is not None:
                    break
                reached.append(done(reached[-1], move))
            words[word] = words.get(word, 0) + 1
            if word is not None:
                index = len(reached) - 1
                self.barred(index, word, layout, *moves)
                self.assertEqual(plan_fault(layout, layout, moves), (word, index))
                continue
            self.assertEqual(play(layout, *moves), reached[-1])
            self.assertEqual(list(stages(layout, *moves)), reached)
            for stage in reached:
                self.assertTrue(oracle.survives(stage.net, stage.rates, stage.spots))
            self.assertIsNone(plan_fault(layout, reached[-1], tuple(moves)))
            ended = {move[1] for move in moves if move[0] == "end"}
            self.assertEqual(always_lit(layout, moves), tuple(sorted(set(layout.signals) - ended)))
            self.back_is_right(layout, moves, reached)
        self.assertGreater(words[None], 50)
        self.assertGreater(len(words), 4)

    def back_is_right(self, layout, moves, reached):
        ways = [undone(stage, move) for stage, move in zip(reached, moves)]
        found = back(layout, *moves)
        if None in ways:
            self.assertIsNone(found)
        else:
            self.assertEqual(found, tuple(ways[::-1]))
            self.assertEqual(play(reached[-1], *found), layout)

    def test_long_plans(self):
        layout = stack(*[1] * 12, band=64)
        goal = layout.placed({name: 5 * at for at, name in enumerate(layout.signals)})
        moves = list(slides(layout, goal)) + list(slides(goal, layout))
        self.assertEqual(play(layout, moves * 10), layout)
        self.assertIsNone(plan_fault(layout, goal, tuple(moves * 30 + list(slides(layout, goal)))))
        self.assertEqual(plan_fault(layout, layout, moves * 30 + moves[:1]), ("goal", 60 * 264 + 1))


class PlanFaultTest(unittest.TestCase):
    def test_faults(self):
        layout = small()
        goal = play(layout, *PLAN)
        self.assertIsNone(plan_fault(layout, goal, PLAN))
        self.assertIsNone(plan_fault(first=layout, goal=goal, value=list(PLAN)))
        self.assertEqual(plan_fault(layout, goal, PLAN[:-1]), ("goal", 9))
        self.assertEqual(plan_fault(layout, layout, PLAN), ("goal", 10))
        self.assertEqual(plan_fault(layout, goal, ()), ("goal", 0))
        self.assertEqual(plan_fault(layout, goal, PLAN + PLAN[-2:]), ("item", 10))
        # The last move is barred.
        self.assertEqual(plan_fault(layout, goal, PLAN + (("slide", "a", -1), ("slide", "a", -1))), ("place", 11))
        self.assertEqual(plan_fault(layout, goal, PLAN[1:]), ("item", 0))
        # A list among the moves is no move.
        self.assertEqual(plan_fault(layout, goal, [list(PLAN)]), ("form", 0))
        self.assertEqual(plan_fault(layout, goal, PLAN[:2] + (list(PLAN[2]),) + PLAN[3:]), ("form", 2))

    def test_any_value(self):
        layout = small()
        for value in STRANGE:
            if isinstance(value, (list, tuple)) and value:
                self.assertEqual(plan_fault(layout, layout, value), ("form", 0))
            elif not isinstance(value, (list, tuple)):
                self.assertEqual(plan_fault(layout, layout, value), ("form", None))
            self.assertEqual(plan_fault(layout, layout, PLAN[:3] + (value,)), ("form", 3))

    def test_goals_that_differ(self):
        layout = small()
        for goal in (layout.in_band(9), layout.without("a"), layout.placed({"b": 2}),
                     layout.with_item("a", (0,), 0, rate=1).with_item("c", (2,), 0, rate=1)):
            self.assertEqual(plan_fault(layout, goal, []), ("goal", 0))


class BackTest(unittest.TestCase):
    def test_back(self):
        layout = small()
        moves = (("slide", "b", 1), ("light", "a", (2,), 0), ("move", "b", (1,), 6), ("drop", "b"), ("quit", "a"))
        self.assertEqual(back(layout, *moves), (
            ("light", "a", (2,), 0), ("guard", "b", (1,), 6), ("move", "b", (1,), 3), ("quit", "a"),
            ("slide", "b", -1)))
        self.assertEqual(play(play(layout, *moves), *back(layout, list(moves))), layout)
        self.assertEqual(back(layout, ("begin", "c", 2, (1,), 0), ("slide", "c", 1)),
                         (("slide", "c", -1), ("end", "c")))
        self.assertEqual(back(layout, ("end", "a")), (("begin", "a", 1, (0,), 0),))
        self.assertIsNone(back(layout, ("end", "b")))
        self.assertIsNone(back(layout, *PLAN[:3]))
        self.assertIsNone(back(layout, ("slide", "b", 1), *PLAN[:3], ("slide", "b*", 1)))


class TallyTest(unittest.TestCase):
    def test_tally(self):
        self.assertEqual(tally(PLAN), {
            "begin": 1, "drop": 1, "end": 1, "guard": 1, "light": 1, "move": 1, "out": 1, "slide": 3})
        self.assertEqual(list(tally(list(PLAN[::-1]))), sorted(tally(moves=PLAN)))
        self.assertEqual((tally(()), tally([])), ({}, {}))
        told = tally(PLAN)
        told.clear()
        self.assertEqual(tally(PLAN)["slide"], 3)

    def test_hops(self):
        self.assertEqual((hops_in(PLAN), hops_in(moves=[]), hops_in(list(PLAN) * 3)), (1, 0, 3))


class HopTest(unittest.TestCase):
    def test_hop(self):
        layout = small()
        after = hop(layout, "a", (2,), 5)
        self.assertEqual((after["a"], after.doubled), (((2,), 5), None))
        self.assertEqual(after, play(layout, ("light", "a", (2,), 5), ("out", "a")))
        self.assertEqual(hop(layout=layout, name="b", route=(0,), place=6)["b"], ((0,), 6))

    def test_not_allowed(self):
        layout = small()
        told = [
            (0, "overlap", ("a", (0,), 0)), (0, "item", ("c", (0,), 0)), (0, "form", ("a", [0], 0)),
            (0, "form", (["a"], (0,), 0)), (0, "place", ("a", (0,), 8)), (1, "calls", ("b", (1,), 0)),
            (0, "route", ("a", (0, 1), 0)),
        ]
        for index, word, arguments in told:
            with self.assertRaises(NotAllowed) as caught:
                hop(layout, *arguments)
            self.assertEqual((caught.exception.index, caught.exception.word), (index, word))
        with self.assertRaises(NotAllowed) as caught:
            hop(crowd(), "two", (0, 2), 0)
        self.assertEqual((caught.exception.index, caught.exception.word), (0, "twin"))


class AlwaysLitTest(unittest.TestCase):
    def test_signals(self):
        layout = small()
        self.assertEqual(always_lit(layout, *PLAN), ("a",))
        self.assertEqual(always_lit(layout, list(PLAN[:8])), ("a", "b"))
        # A signal that begins anew was taken away, and one that is new is none of the layout.
        again = (("end", "a"), ("begin", "a", 1, (0,), 0), ("begin", "c", 1, (2,), 0))
        self.assertEqual(always_lit(layout, *again), ("b",))
