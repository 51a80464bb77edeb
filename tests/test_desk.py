"""Promise [25]: a plant that is led by rows of text."""

import unittest

from everlit.chains import least_band
from everlit.desk import Desk
from everlit.errors import (
    InvalidBand, InvalidLayout, InvalidNet, InvalidWish, NoDuct, NoItem, NotAllowed, NothingToUndo, ParseError,
    UnknownCommand)
from everlit.formatting import layout_text, move_text
from everlit.layouts import Layout
from everlit.plant import Plant
from everlit.roomcheck import shows_heavy
from everlit.rooms import room
from everlit.roomticks import soonest
from tests.samples import STRANGE, crowd, line
from tests.test_chains import stack
from tests.test_moves import RIGHT
from tests.test_plant import moment, undos
from tests.test_turned import small

ROWS = [
    "undo", "show", "order", "weight", "room c 1 0", "soon c 1 0", "admit c 1 0", "guard a", "cut p", "strikes p",
    "narrow 4", "log", "slide b up", "light a 2 0", "out a", "quit a", "move b 1 5", "guard a 2 0", "drop b",
    "begin c 1 0 5", "end a",
]


class DeskCase(unittest.TestCase):
    def desk(self, layout=None):
        return Desk(layout_text(small() if layout is None else layout))

    def refused(self, error, desk, row, **fields):
        before = (moment(desk.plant), undos(desk.plant))
        with self.assertRaises(error) as caught:
            desk.say(row)
        for field, value in fields.items():
            found = getattr(caught.exception, field)
            self.assertEqual(found, value)
            self.assertIs(type(found), type(value))
        self.assertEqual((moment(desk.plant), undos(desk.plant)), before)

    def unknown(self, desk, row):
        self.refused(UnknownCommand, desk, row, command=row)


class MakingTest(DeskCase):
    def test_the_plant(self):
        desk = Desk(text=layout_text(crowd()))
        self.assertIs(type(desk.plant), Plant)
        self.assertEqual(desk.plant, Plant(crowd()))
        plant = desk.plant
        self.assertEqual(desk.say(row="slide one+ up"), "ok")
        self.assertEqual(desk.say("undo"), "ok")
        self.assertIs(desk.plant, plant)

    def test_errors(self):
        for value in STRANGE:
            with self.assertRaises(ParseError) as caught:
                Desk(value)
            self.assertEqual((caught.exception.line, caught.exception.word), (0, 0))
        with self.assertRaises(ParseError) as caught:
            Desk("fibre a b 1 d")
        self.assertEqual((caught.exception.line, caught.exception.word), (1, 0))
        with self.assertRaises(InvalidNet):
            Desk("fibre a a 1 d\nband 1\nsignal a 1 9 9")
        with self.assertRaises(InvalidLayout):
            Desk("fibre a b 1 d\nband 1\nsignal a 1 9 9")


class RowsTest(DeskCase):
    def test_moves(self):
        desk = self.desk()
        for row in ("slide b up", "light a 2 0", "out a", "move b 2 4", "drop b", "guard b 1 0", "begin c 1 0 0",
                    "light c 1 6", "quit c", "end a"):
            self.assertEqual(desk.say(row), "ok")
        self.assertEqual(desk.say("log"), "10 2")
        self.assertEqual(desk.plant.log[3:5], (("move", "b", (2,), 4), ("drop", "b")))
        self.assertEqual(undos(desk.plant), 10)
        desk = self.desk()
        self.refused(NotAllowed, desk, "slide a down", index=0, word="place")
        self.refused(NotAllowed, desk, "guard b 1 0", index=0, word="reserve")
        self.refused(NotAllowed, desk, "guard b 9 9", index=0, word="reserve")
        self.refused(NotAllowed, desk, "begin c 1 9 9", index=0, word="route")
        self.refused(NotAllowed, desk, "end z", index=0, word="item")

    def test_undo(self):
        desk = self.desk()
        self.refused(NothingToUndo, desk, "undo", count=1)
        desk.say("slide b up")
        desk.say("admit c 1 0")
        self.assertEqual(desk.say("undo"), "ok")
        self.assertEqual(desk.say("log"), "1 0")
        self.assertEqual(desk.say("undo"), "ok")
        self.assertEqual(desk.plant, Plant(small()))

    def test_show(self):
        text = "fibre a b 100 p | fibre a b 100 q | fibre a b 100 r | band 8 | signal a 1 0 0 | signal b 2 0 1 | " \
               "reserve b 1 3"
        self.assertEqual(self.desk().say("show"), text)
        self.assertEqual(self.desk(stack()).say("show"), text[:text.index(" | signal")].replace("8", "64"))

    def test_order_and_weight(self):
        self.assertEqual(self.desk().say("order"), "a<b")
        self.assertEqual(self.desk().say("weight"), "3")
        self.assertEqual(self.desk(stack()).say("order"), "-")
        self.assertEqual(self.desk(stack()).say("weight"), "0")
        self.assertEqual(self.desk(stack(1, 1, 1)).say("order"), "a<b a<c b<c")
        desk = self.desk(crowd())
        self.assertEqual(desk.say("weight"), str(least_band(crowd())))
        # Ascending as pairs, where "one" stands ahead of "one*".
        self.assertEqual(desk.say("order"), "one<two two<wide*")

    def test_room(self):
        desk = self.desk()
        self.assertEqual(desk.say("room c 5 0"), "room 0")
        self.assertEqual(desk.say("room c 6 0"), "barred a b")
        self.assertEqual(desk.say("room c 9 2"), "barred")
        self.assertEqual(desk.say("room c 3 1"), "room 0")
        rows = room(crowd(), ("new", (0, 2), 7))
        told = ["barred"] + [row[0] for row in rows[1]]
        self.assertEqual(self.desk(crowd()).say("room new 7 0,2"), " ".join(told))
        self.assertEqual(undos(desk.plant), 0)

    def test_soon(self):
        desk = self.desk()
        _, ticks, place, _ = soonest(small(), ("c", (0,), 4))
        self.assertEqual(desk.say("soon c 4 0"), f"{ticks} {place}")
        self.assertEqual(desk.say("soon c 5 0"), "0 3")
        self.assertEqual(self.desk(small().placed({"b": 3})).say("soon c 5 0"), "2 3")
        self.assertEqual(desk.say("soon c 6 0"), "barred a b")
        self.assertEqual(desk.say("soon c 9 2"), "barred")

    def test_admit(self):
        desk = self.desk()
        self.assertEqual(desk.say("admit c 5 0"), "0")
        self.assertEqual(desk.say("show"), layout_text(room(small(), ("c", (0,), 5))[2]).replace("\n", " | "))
        self.assertEqual(desk.say("admit d 1 0"), "barred c a b")
        self.assertEqual(desk.say("admit d 9 2"), "barred")
        self.assertEqual(undos(desk.plant), 1)

    def test_guard(self):
        desk = self.desk()
        self.assertEqual(desk.say("guard a"), "1")
        self.assertEqual(desk.say("move a 2 0"), "ok")
        self.assertEqual(desk.say("guard b"), "1")
        self.assertEqual(undos(desk.plant), 3)
        # With three words behind it is a move.
        self.assertEqual(desk.say("drop a"), "ok")
        self.assertEqual(desk.say("guard a 2 5"), "ok")
        self.assertEqual(desk.plant.layout["a*"], ((2,), 5))
        full = stack(2, band=2).with_item("b", (1,), 0, rate=2).with_item("c", (2,), 0, rate=2)
        desk = self.desk(full)
        self.assertEqual(desk.say("guard a"), "barred")
        self.assertEqual(undos(desk.plant), 0)
        self.refused(NoItem, desk, "guard z", item="z")

    def test_a_route_of_several_fibres(self):
        text = "fibre a b 1 p\nfibre b c 1 q\nfibre a c 9 r\nband 3\nsignal x 1 2 0"
        self.assertEqual(Desk(text).say("guard x"), "0,1")
        self.assertEqual(Desk(text).say("admit y 3 0,1"), "0")

    def test_cut_and_strikes(self):
        desk = self.desk()
        self.assertEqual(desk.say("strikes p"), "a b")
        self.assertEqual(desk.say("strikes q"), "-")
        self.assertEqual(desk.say("cut q"), "-")
        self.assertEqual(desk.say("cut p"), "a b")
        self.assertEqual(desk.say("strikes p"), "-")
        self.assertEqual(desk.say("show")[-6:], "band 8")
        self.assertEqual(self.desk().say("cut p"), "a")
        for row in ("cut zz", "strikes zz", "cut up", "strikes band"):
            self.refused(NoDuct, desk, row, name=row.split(" ")[1])

    def test_narrow(self):
        desk = self.desk(small().placed({"b": 6}))
        self.assertEqual(desk.say("narrow 8"), "0")
        self.assertEqual(desk.say("narrow 5"), "3")
        self.assertEqual(desk.say("narrow 2"), "heavy a b")
        self.assertIs(shows_heavy(desk.plant.layout, 2, tuple(desk.say("narrow 2").split(" ")[1:])), True)
        self.refused(InvalidBand, desk, "narrow 6", value=6)
        self.refused(InvalidBand, desk, "narrow 64", value=64)
        self.assertEqual(desk.plant.slots, 5)
        for row in ("narrow 0", "narrow 65", "narrow 05", "narrow -1", "narrow a", "narrow +5"):
            self.unknown(desk, row)

    def test_log(self):
        desk = self.desk()
        self.assertEqual(desk.say("log"), "0 0")
        desk.say("light a 2 0")
        desk.say("narrow 8")
        desk.say("cut q")
        self.assertEqual(desk.say("log"), "3 1")

    def test_wishes(self):
        desk = self.desk()
        for word in ("room", "soon", "admit"):
            self.refused(InvalidWish, desk, f"{word} a 1 0", word="wish")
            self.refused(InvalidWish, desk, f"{word} c 1 3", word="route")
            self.refused(InvalidWish, desk, f"{word} c 1 0,1", word="route")
            self.refused(InvalidWish, self.desk(stack(*[1] * 12)), f"{word} z 1 9", word="many")


class UnknownTest(DeskCase):
    def test_any_value(self):
        desk = self.desk()
        for value in STRANGE + [("undo",), ["undo"], b"undo", {"undo": 1}]:
            self.unknown(desk, value)

    def test_another_number_of_words(self):
        for row in ROWS:
            words = row.split(" ")
            desk = self.desk()
            for many in range(len(words)):
                told = " ".join(words[:many])
                if told != "guard a":
                    self.unknown(desk, told)
            for extra in ("", "a", "0", "0 0", "up"):
                if (row, extra) != ("guard a", "0 0"):
                    self.unknown(desk, row + " " + extra)
            self.unknown(desk, " " + row)
            self.unknown(desk, row.replace(" ", "  ", 1) if " " in row else row + "  ")
            self.unknown(desk, row + "\n")
            self.unknown(desk, row.upper())
        self.unknown(self.desk(), "guard a 2")
        self.unknown(self.desk(), "guard a 2 0 0")

    def test_words_that_the_texts_do_not_take(self):
        desk = self.desk()
        for row in ROWS:
            words = row.split(" ")
            for at in range(1, len(words)):
                for bad in ("?", "", "A", "a1", "01", "-1", "99999", "64,0", ",", "a\n", "a*+", "aaaaaaaaa", "1" * 5900):
                    self.unknown(desk, " ".join(words[:at] + [bad] + words[at + 1:]))
        for row in ("room c 17 0", "room c 0 0", "soon c 1 16", "admit c* 1 0", "admit c 1 0,", "guard a*", "cut p*",
                    "room c 1 00", "strikes P", "narrow 1.", "light a 2 64", "begin c 17 0 0", "slide b 1", "band 8",
                    "do", "do slide b up", "twin", "change 8", "end", "plan", "show all", "log log"):
            self.unknown(desk, row)
        for name in ("a+", "a*", "abcdefghi"):
            self.unknown(desk, f"guard {name}")

    def test_all_moves_are_known(self):
        for move in RIGHT:
            try:
                self.assertEqual(self.desk().say(move_text(move)), "ok")
            except NotAllowed as wrong:
                self.assertNotEqual((wrong.index, wrong.word), (0, "form"))

    def test_names_that_are_words_of_rows(self):
        desk = self.desk(stack())
        for name in ("undo", "show", "order", "log", "guard"):
            self.assertEqual(desk.say(f"admit {name} 1 0"), "0")
            self.assertEqual(desk.say(f"guard {name}"), "1")
            self.assertEqual(desk.say(f"end {name}"), "ok")
        self.assertEqual(desk.plant.layout, Layout(line(), 64, {}, {}))
