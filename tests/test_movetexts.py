"""Promise [25]: the texts of moves and plans, and all texts as the functions of parsing read them."""

import unittest

from everlit.errors import InvalidLayout, InvalidNet, ParseError
from everlit.formatting import layout_text, move_text, net_text, plan_text
from everlit.layouts import Layout
from everlit.moves import is_move
from everlit.parsing import read_layout, read_move, read_net, read_plan
from everlit.plans import play
from everlit.wide import wide_plan
from tests.samples import STRANGE, crowd, generator, ladder
from tests.test_demands import piled
from tests.test_layout_methods import random_layout
from tests.test_moves import RIGHT, random_move
from tests.test_texts import LAYOUT, NET, Texts

TEXTS = {
    ("slide", "a", 1): "slide a up",
    ("slide", "abcdefgh*", -1): "slide abcdefgh* down",
    ("slide", "b+", 1): "slide b+ up",
    ("light", "a", (0, 3, 4), 0): "light a 0,3,4 0",
    ("out", "a"): "out a",
    ("quit", "zzzzzzzz"): "quit zzzzzzzz",
    ("move", "a", (15, 0), 63): "move a 15,0 63",
    ("drop", "out"): "drop out",
    ("guard", "guard", (3, 3), 1): "guard guard 3,3 1",
    ("begin", "a", 16, (0,), 10): "begin a 16 0 10",
    ("end", "up"): "end up",
    ("light", "b", tuple(range(16)), 63): "light b 0,1,2,3,4,5,6,7,8,9,10,11,12,13,14,15 63",
}
WRONG_WORDS = ["", "?", "A", "a-", "a**", "aaaaaaaaa", "17", "64", "00", "01", "-1", "+1", "1.", "Up", "0,", ",0", "0,,1",
               "0,16", "0,01", "16", "x\n", "\n", "up\n", "9" * 5900, ",".join(["0"] * 17), "1_0"]


class MoveTest(Texts):
    def test_written_and_read(self):
        for move, text in TEXTS.items():
            self.assertEqual(move_text(move), text)
            self.assertEqual(move_text(move=move), text)
            self.assertEqual(read_move(text), move)
            self.assertEqual(read_move(text=text), move)
            self.assertIs(is_move(read_move(text)), True)
        for move in RIGHT:
            self.assertEqual(read_move(move_text(move)), move)

    def test_moves_of_layouts(self):
        rng = generator(260)
        for _ in range(300):
            move = random_move(rng, random_layout(rng))
            if is_move(move):
                self.assertEqual(read_move(move_text(move)), move)

    def test_words_missing_and_too_many(self):
        for text in TEXTS.values():
            words = text.split(" ")
            for many in range(1, len(words)):
                self.wrong(read_move, " ".join(words[:many]), 0, many)
                self.wrong(read_move, " ".join(words[:many] + [""]), 0, many)
            for extra in ("a", "0", "up", "0,1", "", "?"):
                self.wrong(read_move, text + " " + extra, 0, len(words))
                self.wrong(read_move, text + " " + extra + " b", 0, len(words))

    def test_words_that_never_stand(self):
        for text in TEXTS.values():
            words = text.split(" ")
            for at in range(len(words)):
                for bad in WRONG_WORDS:
                    if at and read_alone(words, at, bad):
                        continue
                    self.wrong(read_move, " ".join(words[:at] + [bad] + words[at + 1:]), 0, at)
                self.wrong(read_move, " ".join(words[:at] + [""] + words[at:]), 0, at)

    def test_bounds(self):
        for text, at in [
            ("slide a 1", 2), ("slide a", 2), ("slide A up", 1), ("slide a+* up", 1), ("slide up", 2), ("light a+ 0 0", 1),
            ("light a 0 64", 3), ("light a 16 0", 2), ("light a 0 0 0", 4), ("begin a 0 0 0", 2), ("begin a 17 0 0", 2),
            ("begin a 1 0", 4), ("begin a* 1 0 0", 1), ("drop a*", 1), ("end", 1), ("cut p", 0), ("band 3", 0), ("undo", 0),
            ("Out a", 0), ("fibre a b 1 d", 0), ("signal a 1 0 0", 0), ("twin a 0 0", 0), ("guard a", 2),
        ]:
            self.wrong(read_move, text, 0, at)
        self.assertEqual(read_move("begin b 1 0 0"), ("begin", "b", 1, (0,), 0))

    def test_a_newline_is_a_character_that_no_word_contains(self):
        self.wrong(read_move, "out a\n", 0, 1)
        self.wrong(read_move, "\nout a", 0, 0)
        self.wrong(read_move, "out\na", 0, 0)
        self.wrong(read_move, "out a\nout b", 0, 1)
        self.wrong(read_move, "out a \n", 0, 2)
        self.wrong(read_move, "slide a up\nslide a up", 0, 2)
        self.wrong(read_move, "light a 0\n 0", 0, 2)

    def test_any_value(self):
        for value in STRANGE + [("out", "a"), ["out a"]]:
            told = value.split(" ") if isinstance(value, str) else None
            if not told or told[0] not in ("slide", "out"):
                self.wrong(read_move, value, 0, 0)
        self.wrong(read_move, "", 0, 0)
        self.wrong(read_move, " ", 0, 0)


def read_alone(words, at, bad):
    """Whether a word that is wrong in most places is right in this one."""
    try:
        read_move(" ".join(words[:at] + [bad] + words[at + 1:]))
    except ParseError:
        return False
    return True


class PlanTest(Texts):
    def test_written_and_read(self):
        text = "\n".join(TEXTS.values())
        self.assertEqual(plan_text(list(TEXTS)), text)
        self.assertEqual(plan_text(moves=tuple(TEXTS)), text)
        self.assertEqual(read_plan(text), tuple(TEXTS))
        self.assertEqual(read_plan(text="out a"), (("out", "a"),))

    def test_the_empty_plan(self):
        self.assertEqual((plan_text(()), plan_text([])), ("", ""))
        self.assertEqual(read_plan(""), ())
        self.assertIs(type(read_plan("")), tuple)

    def test_a_long_plan(self):
        first, goal = piled("abcdefg", 20), piled("gfedcba", 20)
        rise, fall = wide_plan(first, goal)
        self.assertEqual(read_plan(plan_text(rise + fall)), rise + fall)
        self.assertEqual(play(first, *read_plan(plan_text(rise + fall))), goal)

    def test_wrong_lines(self):
        lines = list(TEXTS.values())
        for at, told in enumerate(lines):
            words = told.split(" ")
            for index in range(len(words)):
                bad = " ".join(words[:index] + ["?"] + words[index + 1:])
                self.wrong(read_plan, "\n".join(lines[:at] + [bad] + lines[at + 1:]), at, index)
            self.wrong(read_plan, "\n".join(lines[:at] + [told + " "] + lines[at + 1:]), at, len(words))
            self.wrong(read_plan, "\n".join(lines[:at] + [""] + lines[at:]), at, 0)
        self.wrong(read_plan, "\n".join(lines) + "\n", len(lines), 0)
        self.wrong(read_plan, "\n", 0, 0)
        self.wrong(read_plan, "out a\nout\nout", 1, 1)

    def test_any_value(self):
        for value in STRANGE + [["out a"], ("out", "a")]:
            if value != "":
                self.wrong(read_plan, value, 0, 0)


class NetAndLayoutTest(Texts):
    def test_written_and_read(self):
        self.assertEqual(read_net(NET), ladder())
        self.assertEqual(read_net(text=net_text(ladder())), ladder())
        self.assertEqual(read_layout(LAYOUT), crowd())
        self.assertEqual(read_layout(text=layout_text(crowd())), crowd())
        rng = generator(261)
        for _ in range(60):
            layout = random_layout(rng)
            self.assertEqual(read_layout(layout_text(layout)), layout)
            self.assertEqual(read_net(net_text(layout.net)), layout.net)
            self.assertEqual(layout_text(read_layout(layout_text(layout))), str(layout))

    def test_the_same_errors_as_the_classes(self):
        for value in STRANGE:
            for read in (read_net, read_layout):
                self.wrong(read, value, 0, 0)
        self.wrong(read_net, LAYOUT, 8, 0)
        self.wrong(read_layout, NET, 8, 0)
        self.wrong(read_layout, LAYOUT + "\n", 15, 0)
        with self.assertRaises(InvalidNet) as caught:
            read_net("fibre a a 1 d")
        self.assertEqual((caught.exception.word, caught.exception.index), ("fibre", 0))
        with self.assertRaises(InvalidNet):
            read_layout("fibre a b 1 d\nreach 5 2\nreach 4 3\nband 1\nsignal a 1 3 3")
        with self.assertRaises(InvalidLayout) as caught:
            read_layout("fibre a b 1 d\nband 1\nsignal a 1 3 3")
        self.assertEqual((caught.exception.word, caught.exception.item), ("route", "a"))

    def test_both_orders_of_twin_and_reserve(self):
        lines = LAYOUT.split("\n")
        turned = lines[:10] + [lines[11], lines[10]] + lines[12:]
        self.assertEqual(read_layout("\n".join(turned)), crowd())
        self.assertIsInstance(read_layout("\n".join(turned)), Layout)


class WordsOfTextsTest(unittest.TestCase):
    def test_as_names_everywhere(self):
        names = ["slide", "light", "out", "quit", "move", "drop", "guard", "begin", "end", "up", "down", "fibre"]
        for name in names:
            for move in (("out", name), ("slide", name, -1), ("begin", name, 2, (0,), 5), ("guard", name, (1,), 3)):
                self.assertEqual(read_move(move_text(move)), move)
        moves = tuple(("end", name) for name in names)
        self.assertEqual(read_plan(plan_text(moves)), moves)
