"""Promises [11], [13], [14] and [18] in use: plants, and what can be taken back."""

import unittest

from everlit.cuts import after_cut
from everlit.errors import (
    Barred, InvalidBand, InvalidWish, NoDuct, NoItem, NoName, NotAllowed, NothingToUndo, Turned, Unlike)
from everlit.layouts import Layout
from everlit.nets import Net
from everlit.plans import play
from everlit.plant import GuardedPlant, Plant
from everlit.reserves import guard, shows_unguardable
from everlit.roomcheck import shows_barred, shows_heavy
from everlit.rooms import room
from everlit.roomticks import narrowed
from everlit.slides import slides
from tests.samples import STRANGE, crowd, generator, line
from tests.test_chains import stack
from tests.test_layout_methods import random_layout
from tests.test_turned import small

CLASSES = (Plant, GuardedPlant)


def moment(plant):
    """All that a plant tells."""
    return (plant.layout, plant.log, plant.hops, plant.slots, len(plant), repr(plant))


def undos(plant):
    """How many calls can be taken back, found by a trial."""
    def count(told):
        many = 0
        try:
            while True:
                told.undo()
                many += 1
        except NothingToUndo:
            return many
    return plant.trial(count)


class PlantCase(unittest.TestCase):
    def refused(self, error, call, **fields):
        """Checks that a call raises an error with these fields and changes nothing."""
        plant = call.__self__
        before, many = moment(plant), undos(plant)

        def check(*told, **more):
            with self.assertRaises(error) as caught:
                call(*told, **more)
            for field, value in fields.items():
                found = getattr(caught.exception, field)
                self.assertEqual(found, value)
                self.assertIs(type(found), type(value))
            self.assertEqual((moment(plant), undos(plant)), (before, many))
            return caught.exception
        return check

    def slid(self, before, after, log):
        """Checks that the entries of a log are the slides between two layouts that are alike."""
        self.assertEqual(list(log), list(slides(before, after)))


class ReadingTest(PlantCase):
    def test_a_new_plant(self):
        for made in CLASSES:
            plant = made(layout=crowd())
            self.assertEqual(plant.layout, crowd())
            self.assertEqual((plant.log, plant.hops, plant.slots, len(plant)), ((), 0, 10, 0))
            self.assertIs(type(plant.log), tuple)
            self.assertIs(bool(plant), True)
            self.assertEqual(repr(plant), f"{made.__name__}(6 items, 0 entries)")
            self.assertEqual(undos(plant), 0)
        self.assertEqual(repr(Plant(Layout(line(), 1, {}, {}))), "Plant(0 items, 0 entries)")

    def test_properties_that_cannot_be_assigned(self):
        plant = Plant(small())
        for name in ("layout", "log", "hops"):
            with self.assertRaises(AttributeError):
                setattr(plant, name, 1)

    def test_equal_and_unequal(self):
        for made, other in (CLASSES, CLASSES[::-1]):
            one, two = made(small()), made(small())
            self.assertTrue(one == two and not one != two)
            self.assertFalse(one == other(small()))
            self.assertTrue(one != other(small()))
            two.do(("slide", "b", 1))
            self.assertTrue(one != two)
            # The same layout with another log.
            two.do(("slide", "b", -1))
            self.assertEqual(two.layout, one.layout)
            self.assertFalse(one == two)
            two.undo(2)
            self.assertTrue(one == two)
            # The same log of another layout.
            self.assertFalse(one == made(small(band=9)))
            # The calls that can be taken back do not count.
            two.do()
            self.assertTrue(one == two)
            for value in STRANGE + [small(), one.layout]:
                self.assertIs(one == value, False)
                self.assertIs(one != value, True)


class DoTest(PlantCase):
    def test_moves(self):
        plant = Plant(small())
        plan = [("slide", "b", 1), ("light", "a", (2,), 0), ("out", "a"), ("drop", "b")]
        self.assertEqual(plant.do(plan[0]), 1)
        self.assertEqual(plant.do(plan[1:3], plan[3]), 4)
        self.assertEqual(plant.log, tuple(plan))
        self.assertEqual(plant.layout, play(small(), *plan))
        self.assertEqual((plant.hops, len(plant), repr(plant)), (1, 4, "Plant(2 items, 4 entries)"))
        self.assertEqual(plant.do(), 4)
        self.assertEqual(plant.do([]), 4)
        self.assertEqual(undos(plant), 4)

    def test_what_is_not_allowed(self):
        plant = Plant(small())
        plant.do(("slide", "b", 1))
        right = ("slide", "a", 1)
        for told, index, word in [
            ((right, ("slide", "a", 1)), 1, "overlap"), ((("slide", "a", -1),), 0, "place"),
            (([right, right], "?"), 1, "overlap"), ((right, [], None), 1, "form"), ((right, [[]]), 1, "form"),
            ((("out", "a"),), 0, "twin"), ((("drop", "a"),), 0, "reserve"), ((("end", "z"),), 0, "item"),
            ((("cut", "p"),), 0, "form"), ((("band", 8),), 0, "form"), ((("guard", "a", (0,), 0),), 0, "calls"),
        ]:
            self.refused(NotAllowed, plant.do, index=index, word=word)(*told)
        for value in STRANGE:
            if value != []:
                self.refused(NotAllowed, plant.do, index=1, word="form")(right, [value])

    def test_the_argument_is_not_kept(self):
        moves = [("slide", "b", 1)]
        plant = Plant(small())
        plant.do(moves)
        moves.append(("out", "a"))
        self.assertEqual(plant.log, (("slide", "b", 1),))


class SlideToTest(PlantCase):
    def test_slides(self):
        plant = Plant(small())
        goal = small().placed({"a": 2, "b": 4, "b*": 0})
        self.assertEqual(plant.slide_to(goal=goal), 8)
        self.assertEqual(plant.layout, goal)
        self.slid(small(), goal, plant.log)
        self.assertEqual(plant.slide_to(goal), 0)
        self.assertEqual((len(plant), undos(plant)), (8, 2))

    def test_errors(self):
        plant = Plant(small())
        self.refused(Unlike, plant.slide_to, item=None)(small(band=9))
        self.refused(Unlike, plant.slide_to, item="b*")(small().without("b*"))
        turned = Layout(line(), 8, {"a": 1, "b": 2}, {"a": ((0,), 5), "b": ((0,), 1), "b*": ((1,), 3)})
        self.refused(Turned, plant.slide_to, lower="a", upper="b")(turned)


class AdmitTest(PlantCase):
    def test_with_slides(self):
        plant = Plant(small())
        word, place, after = room(small(), ("new", (0,), 4))
        self.assertEqual((word, plant.admit(name="new", rate=4, route=(0,))), ("room", place))
        self.assertEqual(plant.layout, after)
        self.slid(small(), after.without("new"), plant.log[:-1])
        self.assertEqual(plant.log[-1], ("begin", "new", 4, (0,), place))
        self.assertEqual(play(small(), *plant.log), after)
        self.assertEqual(undos(plant), 1)
        plant.undo()
        self.assertEqual((plant.layout, plant.log), (small(), ()))

    def test_without_slides(self):
        plant = Plant(Layout(line(), 4, {}, {}))
        self.assertEqual(plant.admit("a", 4, (0,)), 0)
        self.assertEqual(plant.log, (("begin", "a", 4, (0,), 0),))

    def test_barred(self):
        plant = Plant(small())
        wrong = self.refused(Barred, plant.admit)("new", 6, (0,))
        self.assertEqual(wrong.certificate, room(small(), ("new", (0,), 6))[1])
        self.assertIs(shows_barred(small(), ("new", (0,), 6), wrong.certificate), True)
        # Wider than the band, with nothing on its route: no rows.
        self.assertEqual(self.refused(Barred, plant.admit)("new", 9, (2,)).certificate, ())

    def test_wishes(self):
        plant = Plant(small())
        for told, word in [
            (("a", 1, (0,)), "wish"), (("a*", None, (2,)), "wish"), (("a+", None, (2,)), "wish"),
            (("b*", None, (2,)), "wish"), (("new*", 1, (0,)), "wish"), (("New", 1, (0,)), "wish"),
            (("new", 0, (0,)), "rate"), (("new", 17, (9,)), "rate"), (("new", True, (0,)), "rate"),
            (("new", 1, (9,)), "route"), (("new", 1, [0]), "route"), (("new", 1, (True,)), "route"),
        ]:
            self.refused(InvalidWish, plant.admit, word=word)(*told)
        for value in STRANGE:
            if value != "a":
                self.refused(InvalidWish, plant.admit, word="wish")(value, 1, (0,))
            if value is True or value != 1:
                self.refused(InvalidWish, plant.admit, word="rate")("new", value, (0,))
            if value != (1,):
                self.refused(InvalidWish, plant.admit, word="route")("new", 1, value)
        twelve = Plant(stack(*[1] * 12))
        self.refused(InvalidWish, twelve.admit, word="many")("new", 0, (0,))
        self.refused(InvalidWish, twelve.admit, word="wish")("a", 0, (0,))
        far = Plant(Layout(Net(("a", "b", 9, "p"), reach=[(8, 1)]), 4, {}, {}))
        self.refused(InvalidWish, far.admit, word="far")("a", 1, (0,))


class NarrowTest(PlantCase):
    def test_slides_and_band(self):
        first = small().placed({"a": 4, "b": 6, "b*": 6})
        plant = Plant(first)
        word, ticks, after = narrowed(first, 4)
        self.assertEqual((word, plant.narrow(band=4)), ("fits", ticks))
        self.assertEqual(plant.layout, after)
        self.assertEqual(plant.slots, 4)
        self.slid(first, after.in_band(8), plant.log[:-1])
        self.assertEqual(plant.log[-1], ("band", 4))
        self.assertEqual(undos(plant), 1)
        plant.undo()
        self.assertEqual((plant.layout, plant.log), (first, ()))

    def test_the_same_band(self):
        plant = Plant(small())
        self.assertEqual(plant.narrow(8), 0)
        self.assertEqual((plant.layout, plant.log), (small(), (("band", 8),)))

    def test_errors(self):
        plant = Plant(small())
        wrong = self.refused(Barred, plant.narrow)(2)
        self.assertIs(shows_heavy(small(), 2, wrong.certificate), True)
        self.assertEqual(wrong.certificate, narrowed(small(), 2)[1])
        for value in STRANGE + [9, 0, -1]:
            if value is True or value != 1:
                self.refused(InvalidBand, plant.narrow, value=value)(value)


class ProtectTest(PlantCase):
    def test_a_signal_without_a_reserve(self):
        first = stack(1, 2, band=4).with_item("c", (1,), 0, rate=2)
        plant = Plant(first)
        _, route, place, after = guard(first, "a")
        self.assertEqual(plant.protect(name="a"), route)
        self.assertEqual(plant.layout, after)
        self.slid(first, after.without("a*"), plant.log[:-1])
        self.assertEqual(plant.log[-1], ("guard", "a", route, place))
        self.assertEqual(play(first, *plant.log), after)

    def test_a_signal_with_a_reserve(self):
        # The reserve that is there must slide out of the way of the others, too.
        net = Net(("a", "b", 1, "p"), ("a", "b", 1, "q"))
        first = Layout(net, 6, {"a": 1, "b": 2}, {"a": ((0,), 0), "a*": ((1,), 5), "b": ((1,), 3)})
        plant = Plant(first)
        _, route, place, after = guard(first, "a")
        self.assertEqual(plant.protect("a"), route)
        self.assertEqual(plant.layout, after)
        self.assertEqual(plant.log[-1], ("move", "a", route, place))
        self.assertEqual(play(first, *plant.log), after)
        self.assertEqual(undos(plant), 1)

    def test_all_signals_of_many_layouts(self):
        rng = generator(280)
        words = {}
        for _ in range(60):
            first = random_layout(rng)
            for name in first.signals:
                plant = Plant(first)
                answer = guard(first, name)
                if answer[0] == "barred":
                    self.assertEqual(self.refused(Barred, plant.protect)(name).certificate, answer[1])
                else:
                    self.assertEqual(plant.protect(name), answer[1])
                    self.assertEqual(plant.layout, answer[3])
                    self.assertEqual(play(first, *plant.log), answer[3])
                    answer = plant.log[-1]
                words[answer[0]] = words.get(answer[0], 0) + 1
        self.assertGreater(min(words[word] for word in ("barred", "guard", "move")), 10)

    def test_errors(self):
        tight = Layout(line(), 1, {"a": 1, "b": 1, "c": 1}, {"a": ((0,), 0), "b": ((1,), 0), "c": ((2,), 0)})
        plant = Plant(tight)
        wrong = self.refused(Barred, plant.protect)("a")
        self.assertIs(shows_unguardable(tight, "a", wrong.certificate), True)
        for value in STRANGE + ["z", "a*", "a+"]:
            if value != "a":
                self.refused(NoItem, plant.protect, item=value)(value)


class CutTest(PlantCase):
    def test_dark_signals(self):
        plant = Plant(small())
        self.assertEqual(plant.cut(duct="p"), ("a",))
        self.assertEqual(plant.layout, after_cut(small(), "p")[0])
        self.assertEqual(plant.log, (("cut", "p"),))
        self.assertEqual(plant.cut("p"), ())
        self.assertEqual((plant.log, undos(plant)), ((("cut", "p"),) * 2, 2))
        plant.undo(2)
        self.assertEqual(plant.layout, small())

    def test_no_duct(self):
        plant = Plant(small())
        for value in STRANGE + ["zz", ("p",)]:
            self.refused(NoDuct, plant.cut, name=value)(value)


class SlotsTest(PlantCase):
    def test_assigned(self):
        plant = Plant(small())
        plant.slots = 5
        plant.slots = 64
        plant.slots = 64
        self.assertEqual(plant.layout, small(band=64))
        self.assertEqual(plant.log, (("band", 5), ("band", 64), ("band", 64)))
        self.assertEqual((plant.slots, undos(plant)), (64, 3))
        plant.undo()
        plant.undo()
        self.assertEqual((plant.slots, plant.log), (5, (("band", 5),)))

    def test_changed(self):
        plant = Plant(small())
        self.assertIs(plant.change(slots=9), None)
        self.assertEqual((plant.slots, plant.log, undos(plant)), (9, (("band", 9),), 1))
        self.assertIs(plant.change(), None)
        self.assertEqual((plant.slots, plant.log, undos(plant)), (9, (("band", 9),), 2))
        plant.undo()
        self.assertEqual(plant.slots, 9)
        plant.undo()
        self.assertEqual(plant.slots, 8)

    def test_errors(self):
        plant = Plant(small())

        def assign(value):
            plant.slots = value

        for value in STRANGE + [4, 0, 65, -1]:
            before = moment(plant)
            with self.assertRaises(InvalidBand) as caught:
                assign(value)
            self.assertEqual(caught.exception.value, value)
            self.assertIs(type(caught.exception.value), type(value))
            self.assertEqual((moment(plant), undos(plant)), (before, 0))
            self.refused(InvalidBand, plant.change, value=value)(slots=value)
            self.refused(NoName, plant.change, name="band")(slots=value, layout=small(), band=9)
        self.refused(NoName, plant.change, name="hops")(hops=1, log=(), slots=9)
        self.refused(NoName, plant.change, name="A")(slots=9, A=1)


class UndoTest(PlantCase):
    def led(self, made=Plant):
        """A plant after one call of each kind, with the moments ahead of them."""
        plant = made(small())
        found = []
        calls = [
            lambda: plant.do(("slide", "b", 1)), lambda: plant.do(), lambda: plant.admit("c", 1, (0,)),
            lambda: plant.slide_to(plant.layout.mirrored().mirrored()), lambda: plant.protect("a"),
            lambda: plant.protect("b"), lambda: plant.narrow(7), lambda: plant.change(slots=9),
            lambda: plant.change(), lambda: setattr(plant, "slots", 10),
            lambda: plant.do(("light", "c", (1,), 8), ("out", "c")), lambda: plant.cut("p"), lambda: plant.cut("p"),
        ]
        for call in calls:
            found.append(moment(plant))
            call()
        return plant, found

    def test_one_by_one(self):
        for made in CLASSES:
            plant, found = self.led(made)
            self.assertEqual(plant.hops, 1)
            for before in found[::-1]:
                self.assertEqual(plant.undo(), before[4])
                self.assertEqual(moment(plant), before)
            self.refused(NothingToUndo, plant.undo, count=1)()

    def test_several_at_once(self):
        many = len(self.led()[1])
        for count in range(1, many + 1):
            plant, found = self.led()
            self.assertEqual(plant.undo(count=count), found[-count][4])
            self.assertEqual(moment(plant), found[-count])
            self.assertEqual(undos(plant), many - count)

    def test_errors(self):
        plant, found = self.led()
        many = len(found)
        for value in STRANGE + [0, -1, many + 1]:
            if value is True or value != 1:
                self.refused(NothingToUndo, plant.undo, count=value)(value)
        plant.undo(many)
        self.refused(NothingToUndo, plant.undo, count=1)()

    def test_what_raised_is_not_taken_back(self):
        plant = Plant(small())
        plant.do(("slide", "b", 1))
        self.refused(NotAllowed, plant.do)(("out", "a"))
        self.refused(Barred, plant.narrow)(1)
        self.assertEqual(plant.undo(), 0)
        self.assertEqual(plant.layout, small())

    def test_new_calls_behind_an_undo(self):
        plant = Plant(small())
        plant.do(("slide", "b", 1))
        plant.do(("slide", "b", 1))
        plant.undo()
        plant.do(("slide", "a", 1))
        self.assertEqual(plant.log, (("slide", "b", 1), ("slide", "a", 1)))
        plant.undo(2)
        self.assertEqual(plant.layout, small())


class TrialTest(PlantCase):
    def test_nothing_stays(self):
        for made in CLASSES:
            plant = made(small())
            plant.do(("slide", "b", 1))
            before = moment(plant)

            def deed(told):
                self.assertIs(told, plant)
                told.do(("slide", "b", 1))
                told.undo(2)
                self.assertEqual(told.layout, small())
                told.slots = 20
                told.cut("p")
                return told.log

            self.assertEqual(plant.trial(deed=deed), (("band", 20), ("cut", "p")))
            self.assertEqual((moment(plant), undos(plant)), (before, 1))
            self.assertIs(plant.trial(lambda told: None), None)
            self.assertEqual(plant.undo(), 0)

    def test_a_trial_within_a_trial(self):
        plant = Plant(small())

        def inner(told):
            told.slots = 30
            return told.slots

        def outer(told):
            told.slots = 20
            return (told.trial(inner), told.slots, undos(told))

        self.assertEqual(plant.trial(outer), (30, 20, 1))
        self.assertEqual((plant.slots, undos(plant)), (8, 0))

    def test_a_function_that_raises(self):
        plant = Plant(small())
        plant.slots = 9
        before = moment(plant)

        def deed(told):
            told.slots = 20
            raise KeyError("x")

        with self.assertRaises(KeyError):
            plant.trial(deed)
        self.assertEqual((moment(plant), undos(plant)), (before, 1))
        with self.assertRaises(Barred):
            plant.trial(lambda told: told.narrow(1))
        with self.assertRaises(KeyboardInterrupt):
            plant.trial(self.interrupt)
        with self.assertRaises(ZeroDivisionError):
            plant.trial(lambda told: told.trial(lambda other: 1 // 0))
        self.assertEqual((moment(plant), undos(plant)), (before, 1))

    def interrupt(self, plant):
        plant.cut("p")
        raise KeyboardInterrupt


class TwinTest(PlantCase):
    def test_a_twin_goes_its_own_way(self):
        for made in CLASSES:
            plant = made(small())
            plant.do(("slide", "b", 1))
            plant.do()
            other = plant.twin()
            self.assertIs(type(other), made)
            self.assertTrue(other == plant)
            self.assertEqual(undos(other), 2)
            other.do(("slide", "b", 1))
            self.assertEqual(len(plant), 1)
            self.assertTrue(other != plant)
            plant.undo(2)
            self.assertEqual((len(plant), len(other), undos(other)), (0, 2, 3))
            other.undo(3)
            self.assertTrue(other == plant)
            self.assertEqual(plant.layout, small())


class GuardedPlantTest(PlantCase):
    def test_drop(self):
        plant = GuardedPlant(small())
        self.refused(NotAllowed, plant.do, index=0, word="guard")(("drop", "b"))
        self.refused(NotAllowed, plant.do, index=1, word="guard")(("slide", "b", 1), ("drop", "b"))
        self.refused(NotAllowed, plant.do, index=2, word="guard")([("slide", "b", 1)] * 2, ("drop", "b"), ("out", "zz"))
        # A move ahead that is not allowed, and a drop that is not allowed itself, are told as they are.
        self.refused(NotAllowed, plant.do, index=0, word="place")(("slide", "a", -1), ("drop", "b"))
        self.refused(NotAllowed, plant.do, index=0, word="reserve")(("drop", "a"), ("drop", "b"))
        self.refused(NotAllowed, plant.do, index=0, word="item")(("drop", "z"))
        self.refused(NotAllowed, plant.do, index=0, word="form")(("drop", "b*"))
        self.refused(NotAllowed, plant.do, index=0, word="form")(("drop", "b", 1))
        self.refused(NotAllowed, plant.do, index=1, word="form")(("slide", "b", 1), [["drop", "b"]])
        for value in STRANGE:
            self.refused(NotAllowed, plant.do, index=0, word="form")([value])

    def test_guarded_later(self):
        plant = GuardedPlant(small())
        self.refused(NotAllowed, plant.do, index=1, word="guard")(("guard", "a", (2,), 0), ("drop", "a"))
        self.refused(NotAllowed, plant.do, index=2, word="guard")([("guard", "a", (2,), 0), ("slide", "b", 1)], (
            "drop", "a"))
        self.assertEqual(plant.do(("guard", "a", (2,), 0)), 1)
        self.refused(NotAllowed, plant.do, index=0, word="guard")(("drop", "a"))
        plant.undo()
        self.refused(NotAllowed, plant.do, index=0, word="reserve")(("drop", "a"))
        plant.protect("a")
        self.refused(NotAllowed, plant.do, index=0, word="guard")(("drop", "a"))

    def test_moved(self):
        plant = GuardedPlant(small())
        self.assertEqual(plant.do(("move", "b", (2,), 0), ("slide", "b*", 1)), 2)
        self.refused(NotAllowed, plant.do, index=0, word="guard")(("drop", "b"))
        self.assertEqual(plant.protect("b"), (1,))

    def test_ended_and_begun_again(self):
        plant = GuardedPlant(small())
        again = ("begin", "b", 1, (1,), 0)
        self.assertEqual(plant.do(("end", "b"), again), 2)
        self.refused(NotAllowed, plant.do, index=0, word="reserve")(("drop", "b"))
        self.assertEqual(plant.do(("guard", "b", (2,), 0), ("end", "b")), 4)
        self.assertEqual(plant.layout.signals, ("a",))
        plant.undo(2)
        self.refused(NotAllowed, plant.do, index=2, word="guard")(("end", "a"), ("slide", "b", 1), ("drop", "b"))

    def test_lost_by_a_cut(self):
        plant = GuardedPlant(small())
        self.assertEqual(plant.cut("p"), ("a",))
        self.assertEqual(plant.layout["b"], ((1,), 3))
        self.refused(NotAllowed, plant.do, index=0, word="reserve")(("drop", "b"))
        self.assertEqual(plant.do(("slide", "b", 1), ("slide", "b", -1)), 3)
        plant.do(("guard", "b", (2,), 0))
        self.refused(NotAllowed, plant.do, index=0, word="guard")(("drop", "b"))
        plant.undo(3)
        self.refused(NotAllowed, plant.do, index=0, word="guard")(("drop", "b"))
        # A reserve whose duct is cut goes as well.
        self.assertEqual(plant.cut("q"), ())
        self.assertNotIn("b*", plant.layout.spots)
        self.assertEqual(plant.do(("slide", "b", 1)), 2)

    def test_the_other_calls_ask_nothing(self):
        plant = GuardedPlant(small())
        plant.slide_to(small().placed({"b*": 0}))
        plant.admit("c", 1, (0,))
        plant.narrow(6)
        plant.change(slots=7)
        plant.protect("c")
        self.assertEqual(repr(plant), f"GuardedPlant(5 items, {len(plant)} entries)")
        self.assertEqual(play(small().placed({}), *[entry for entry in plant.log if entry[0] != "band"]).spots,
                         plant.layout.spots)
        self.assertEqual(plant.trial(lambda told: told.cut("p")), ("a",))
        self.refused(NotAllowed, plant.do, index=0, word="guard")(("drop", "c"))

    def test_a_twin_is_guarded(self):
        plant = GuardedPlant(small()).twin()
        self.refused(NotAllowed, plant.do, index=0, word="guard")(("drop", "b"))
        self.assertEqual(Plant(small()).do(("drop", "b")), 1)
