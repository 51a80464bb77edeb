"""Promise [25]: the texts of nets and of layouts, and ParseError."""

import unittest

from everlit.errors import InvalidLayout, InvalidNet, ParseError
from everlit.formatting import layout_text, net_text
from everlit.layouts import Layout
from everlit.nets import Net
from tests.samples import STRANGE, crowd, generator, ladder, line
from tests.test_layout_methods import random_layout

NET = """fibre a b 100 x
fibre a b 200 y
fibre b c 100 z
fibre a c 250 x
fibre c d 50 w
fibre b d 300 v
reach 200 1
reach 450 2"""

LAYOUT = NET + """
band 10
signal one 2 0 0
twin one 1 1
reserve one 3,2 4
signal two 1 0,2 2
signal wide 3 4 7
reserve wide 2,5 4"""

SHORT = ["fibre a b 1 d", "fibre a b 1 e", "reach 1 1", "band 4", "signal a 1 0 0", "signal b 1 0 1"]


class Texts(unittest.TestCase):
    def wrong(self, read, text, told_line, told_word):
        with self.assertRaises(ParseError) as caught:
            read(text)
        told = (caught.exception.line, caught.exception.word)
        self.assertEqual(told, (told_line, told_word), text if isinstance(text, str) else None)

    def wrong_lines(self, lines, told_line, told_word):
        self.wrong(Layout.read, "\n".join(lines), told_line, told_word)


class WritingTest(Texts):
    def test_net(self):
        self.assertEqual(str(ladder()), NET)
        self.assertEqual(net_text(ladder()), NET)
        self.assertEqual(str(Net(("z", "abcdefgh", 10000, "duct"))), "fibre abcdefgh z 10000 duct")
        self.assertEqual(str(Net(("a", "b", 1, "d"), reach=[(160000, 8)])), "fibre a b 1 d\nreach 160000 8")

    def test_layout(self):
        self.assertEqual(str(crowd()), LAYOUT)
        self.assertEqual(layout_text(crowd()), LAYOUT)
        self.assertEqual(str(Layout(Net(("a", "b", 1, "d")), 64, {}, {})), "fibre a b 1 d\nband 64")

    def test_written_and_read(self):
        rng = generator(25)
        for _ in range(200):
            layout = random_layout(rng)
            self.assertEqual(Net.read(str(layout.net)), layout.net)
            again = Layout.read(str(layout))
            self.assertEqual(again, layout)
            self.assertEqual(str(again), str(layout))


class ReadingTest(Texts):
    def test_net(self):
        self.assertEqual(Net.read(NET), ladder())
        self.assertEqual(Net.read(text="fibre b a 1 d"), Net(("a", "b", 1, "d")))
        self.assertEqual(Net.read("fibre b a 10000 d\nreach 160000 8").reach, ((160000, 8),))

    def test_layout(self):
        self.assertEqual(Layout.read(LAYOUT), crowd())
        self.assertEqual(Layout.read(text="fibre a b 1 d\nband 1"), Layout(Net(("a", "b", 1, "d")), 1, {}, {}))

    def test_signals_in_any_order(self):
        lines = LAYOUT.split("\n")
        turned = lines[:9] + lines[13:15] + lines[12:13] + [lines[9], lines[11], lines[10]]
        self.assertEqual(Layout.read("\n".join(turned)), crowd())

    def test_words_as_names(self):
        text = ("fibre fibre reach 1 band\nband 9\nsignal twin 1 0 0\nsignal reserve 1 0 1\n"
                "twin reserve 0 2\nsignal signal 1 0 3\nsignal band 1 0 4")
        layout = Layout.read(text)
        self.assertEqual(layout.signals, ("band", "reserve", "signal", "twin"))
        self.assertEqual(layout["reserve+"], ((0,), 2))
        self.assertEqual(layout.net.fibres, (("fibre", "reach", 1, "band"),))

    def test_most_lines(self):
        fibres = ["fibre a b 1 d"] * 16
        rows = [f"reach {10 * k + 10} {k + 1}" for k in range(6)]
        signals = [f"signal {name} 1 0 {place}" for place, name in enumerate("abcdefghijkl")]
        text = "\n".join(fibres + rows + ["band 12"] + signals)
        self.assertEqual(str(Layout.read(text)), text)
        self.wrong_lines(fibres + ["fibre a b 1 d"] + rows, 16, 0)
        self.wrong(Net.read, "\n".join(fibres * 2), 16, 0)
        self.wrong_lines(fibres + rows + ["reach 160000 8"], 22, 0)
        self.wrong(Net.read, "\n".join(fibres + rows + ["reach ? ?"]), 22, 0)
        for extra in ("signal m 1 0 0", "signal a 1 0 0", "signal ? 1 0 0", "signal"):
            self.wrong_lines(fibres + rows + ["band 12"] + signals + [extra], 35, 0)

    def test_the_longest_route(self):
        letters = "abcdefghijklmnopq"
        fibres = [f"fibre {letters[k]} {letters[k + 1]} 10000 d" for k in range(16)]
        route = ",".join(str(k) for k in range(16))
        text = "\n".join(fibres + ["reach 160000 8", "band 64", f"signal abcdefgh 8 {route} 0"])
        self.assertEqual(str(Layout.read(text)), text)
        self.assertEqual(Layout.read(text).spots, {"abcdefgh": (tuple(range(16)), 0)})
        one = "\n".join(["fibre a b 1 d"] * 16 + ["band 64", "signal a 16 15 48"])
        self.assertEqual(Layout.read(one).spots, {"a": ((15,), 48)})
        self.wrong(Layout.read, text.replace("14,15", "14,15,0"), 18, 3)

    def test_no_string_and_the_empty_one(self):
        for read in (Net.read, Layout.read):
            for value in STRANGE:
                if isinstance(value, str) and value != "":
                    continue
                self.wrong(read, value, 0, 0)
            self.wrong(read, [NET], 0, 0)
            self.wrong(read, "\n", 0, 0)
            self.wrong(read, " ", 0, 0)


class WrongWordsTest(Texts):
    """Each word of a text with all kinds of lines, changed in one way or another."""

    def each_word(self):
        lines = LAYOUT.split("\n")
        for at, told in enumerate(lines):
            words = told.split(" ")
            for index in range(len(words)):
                yield lines, at, words, index

    def changed(self, lines, at, words):
        return lines[:at] + [" ".join(words)] + lines[at + 1:]

    def test_a_word_that_never_stands(self):
        for lines, at, words, index in self.each_word():
            for bad in ("?", "", "A", "a1", "-1", "+1", "00", "01", "1.0", ",", "0,", ",0", "0,,2", "1_0",
                        "99999999", "9" * 5000, "a" * 9, "a" * 5000, "1a", "a+", "0 ", "16,0", "0,16", "0,00"):
                if index == 0 or bad != "0 ":
                    self.wrong_lines(self.changed(lines, at, words[:index] + [bad] + words[index + 1:]), at, index)

    def test_an_empty_word_put_in(self):
        for lines, at, words, index in self.each_word():
            self.wrong_lines(self.changed(lines, at, words[:index] + [""] + words[index:]), at, index)
        for lines, at, words, _ in self.each_word():
            self.wrong_lines(self.changed(lines, at, words + [""]), at, len(words))

    def test_a_word_too_many(self):
        for lines, at, words, _ in self.each_word():
            for extra in ("a", "1", "0,1", "?"):
                self.wrong_lines(self.changed(lines, at, words + [extra]), at, len(words))
                self.wrong_lines(self.changed(lines, at, words + [extra, ""]), at, len(words))

    def test_words_missing_at_the_end(self):
        for lines, at, words, index in self.each_word():
            if index > 0:
                self.wrong_lines(self.changed(lines, at, words[:index]), at, index)

    def test_the_net_alone(self):
        lines = NET.split("\n")
        for at, told in enumerate(lines):
            words = told.split(" ")
            for index in range(len(words)):
                changed = lines[:at] + [" ".join(words[:index] + [""] + words[index + 1:])] + lines[at + 1:]
                self.wrong(Net.read, "\n".join(changed), at, index)
                missing = lines[:at] + [" ".join(words[:index])] + lines[at + 1:]
                self.wrong(Net.read, "\n".join(missing), at, index)
            changed = lines[:at] + [told + " a"] + lines[at + 1:]
            self.wrong(Net.read, "\n".join(changed), at, len(words))

    def test_words_left_out_or_exchanged(self):
        for told, word in [
            ("fibre a 1 d", 2), ("fibre a b d", 3), ("fibre b 1 d", 2), ("fibre a b 1", 4), ("a b 1 d", 0),
            ("fibre a 1 b d", 2), ("fibre 1 a b d", 1), ("fibre a b d 1", 3), ("a fibre b 1 d", 0),
            ("reach 1", 2), ("reach 9 9", 2), ("fibre", 1), ("fibre a b 1 d d", 5),
        ]:
            self.wrong(Net.read, "fibre a b 1 d\n" + told, 1, word)
        for told, word in [
            ("signal 1 0 0", 1), ("signal b 0 0", 2), ("signal b 1 0", 4), ("signal 1 b 0 0", 1),
            ("signal b 0 1 0", 2), ("signal b 1 0 0 0", 5), ("reserve a 0", 3), ("reserve 0 0", 1),
            ("reserve 0 a 0", 1), ("reserve a 0 0,1", 3), ("twin a 1 0 0", 4), ("twin a 1 0,0", 3),
        ]:
            self.wrong_lines(["fibre a b 1 d", "band 4", "signal a 1 0 0", told], 3, word)

    def test_bounds_of_numbers(self):
        for told, word in [
            ("fibre a b 0 d", 3), ("fibre a b 10001 d", 3), ("fibre a b 010 d", 3), ("fibre a b -5 d", 3),
        ]:
            self.wrong(Net.read, told, 0, word)
        for told, word in [
            ("reach 0 1", 1), ("reach 160001 1", 1), ("reach 5 0", 2), ("reach 5 9", 2), ("band 0", 1),
            ("band 65", 1), ("band 01", 1), ("band 064", 1),
        ]:
            self.wrong_lines(["fibre a b 1 d", told], 1, word)
        head = ["fibre a b 1 d", "band 64"]
        for told, word in [
            ("signal a 0 0 0", 2), ("signal a 17 0 0", 2), ("signal a 1 16 0", 3), ("signal a 1 0 64", 4),
            ("signal a 1 0 00", 4), ("signal a 1 00 0", 3), ("signal a 1 0,16 0", 3), ("signal a 1 0 -1", 4),
            ("signal a 1 " + ",".join(["0"] * 17) + " 0", 3),
        ]:
            self.wrong_lines(head + [told], 2, word)
        layout = Layout.read("\n".join(head + ["signal abcdefgh 16 0 0"]))
        self.assertEqual(layout.rates, {"abcdefgh": 16})
        self.assertEqual(Layout.read("\n".join(head + ["signal a 1 0 63"]))["a"], ((0,), 63))

    def test_numbers_that_are_too_long_for_python(self):
        self.wrong(Net.read, "fibre a b " + "1" * 5990 + " d", 0, 3)
        self.wrong_lines(["fibre a b 1 d", "band " + "1" * 5900], 1, 1)
        self.wrong_lines(["fibre a b 1 d", "band 4", "signal a 1 " + "1" * 5000 + " 0"], 2, 3)


class WrongLinesTest(Texts):
    def test_first_line(self):
        for told in ("reach 1 1", "band 4", "signal a 1 0 0", "twin a 0 0", "reserve a 0 0", "net", "fibres", ""):
            self.wrong(Net.read, told, 0, 0)
            self.wrong_lines([told], 0, 0)
            self.wrong_lines([told] + SHORT, 0, 0)

    def test_lines_that_a_net_does_not_have(self):
        for told in ("band 4", "signal a 1 0 0", "twin a 0 0", "reserve a 0 0", "", "Fibre a b 1 d", "reaches 5 1"):
            self.wrong(Net.read, NET + "\n" + told, 8, 0)
        self.wrong(Net.read, LAYOUT, 8, 0)

    def test_newline_at_an_end(self):
        self.wrong(Net.read, NET + "\n", 8, 0)
        self.wrong(Net.read, "\n" + NET, 0, 0)
        self.wrong(Layout.read, LAYOUT + "\n", 15, 0)
        self.wrong_lines(SHORT[:3] + [""] + SHORT[3:], 3, 0)

    def test_lines_out_of_order(self):
        fibre, _, reach, band, one, two = SHORT
        twin, reserve = "twin a 1 0", "reserve a 1 0"
        for lines, at in [
            ([fibre, reach, fibre], 2), ([fibre, band, fibre], 2), ([fibre, band, one, fibre], 3),
            ([fibre, band, one, twin, fibre], 4), ([fibre, band, reach], 2), ([fibre, band, one, reach], 3),
            ([fibre, band, band], 2), ([fibre, band, one, band], 3), ([fibre, reach, band, one, reserve, band], 5),
            ([fibre, one], 1), ([fibre, reach, one, band], 2), ([fibre, twin], 1), ([fibre, band, twin], 2),
            ([fibre, band, reserve, one], 2), ([fibre, reach, reserve], 2),
            ([fibre, band, one, twin, twin], 4), ([fibre, band, one, reserve, reserve], 4),
            ([fibre, band, one, twin, reserve, twin], 5), ([fibre, band, one, reserve, twin, reserve], 5),
            ([fibre, band, one, twin, reserve, reserve], 5), ([fibre, band, one, reserve, twin, twin], 5),
        ]:
            self.wrong_lines(lines, at, 0)

    def test_names_of_signals(self):
        for told, at in [
            (["signal a 1 0 0", "signal a 1 0 1"], 3), (["signal a 1 0 0", "signal b 1 0 1", "signal a 1 0 3"], 4),
            (["signal a 1 0 0", "signal a"], 3), (["signal a 1 0 0", "signal a ? ? ?"], 3),
            (["signal a 1 0 0", "twin b 0 0"], 3), (["signal a 1 0 0", "reserve b ? 0"], 3),
            (["signal a 1 0 0", "signal b 1 0 1", "reserve a 0 0"], 4),
            (["signal a 1 0 0", "twin a 1 1", "reserve b 0 0"], 4), (["signal a 1 0 0", "twin a+ 1 1"], 3),
            (["signal a 1 0 0", "reserve a 1 1", "twin b 0 0"], 4), (["signal a 1 0 0", "reserve b"], 3),
            (["signal a 1 0 0", "twin a 1 1", "reserve a 0 0", "signal a 1 0 3"], 5),
        ]:
            self.wrong_lines(["fibre a b 1 d", "band 8"] + told, at, 1)
        self.wrong_lines(["fibre a b 1 d", "band 8", "signal a 1 0 0", "reserve"], 3, 1)

    def test_the_band_is_missing(self):
        for many in range(1, 9):
            self.wrong_lines(LAYOUT.split("\n")[:many], many, 0)
        self.wrong(Layout.read, NET, 8, 0)

    def test_the_first_wrong_line_is_told(self):
        self.wrong_lines(["fibre a b 1 d", "band 99", "band ?", "?"], 1, 1)
        self.wrong_lines(["fibre a b 1", "?"], 0, 4)
        self.wrong_lines(["fibre a b 1 d", "reach 1 1 1"], 1, 3)


class WhatTheClassesTellTest(Texts):
    def net_fault(self, text, word, index):
        for read, told in ((Net.read, text), (Layout.read, text + "\nband 4\nsignal a 1 7 63")):
            with self.assertRaises(InvalidNet) as caught:
                read(told)
            self.assertEqual((caught.exception.word, caught.exception.index), (word, index))

    def layout_fault(self, lines, word, item):
        with self.assertRaises(InvalidLayout) as caught:
            Layout.read("\n".join(["fibre a b 5 d", "fibre a b 9 e", "reach 5 2", "band 8"] + lines))
        self.assertEqual((caught.exception.word, caught.exception.item), (word, item))

    def test_nets(self):
        self.net_fault("fibre a b 1 d\nfibre a a 1 d", "fibre", 1)
        self.net_fault("fibre a b 1 d\nreach 5 2\nreach 5 3", "reach", 1)
        self.net_fault("fibre a b 1 d\nreach 5 2\nreach 6 2", "reach", 1)
        self.net_fault("fibre a a 1 d\nreach 5 2\nreach 6 2", "fibre", 0)

    def test_layouts(self):
        self.layout_fault(["signal a 1 2 0"], "route", "a")
        self.layout_fault(["signal a 1 0,1 0"], "route", "a")
        self.layout_fault(["signal a 1 1 0"], "far", "a")
        self.layout_fault(["signal a 1 0 7"], "place", "a")
        self.layout_fault(["signal a 1 0 63"], "place", "a")
        self.layout_fault(["signal a 1 0 0", "reserve a 0 0"], "calls", "a*")
        self.layout_fault(["signal b 1 0 0", "signal a 1 0 1"], "overlap", "a")
        self.layout_fault(["signal a 1 0 0", "twin a 0 2", "signal b 1 0 4", "twin b 0 6"], "twin", "b+")

    def test_a_parse_error_comes_first(self):
        self.wrong(Net.read, "fibre a a 1 d\nfibre", 1, 1)
        self.wrong_lines(["fibre a a 1 d", "band 4", "signal a 1 9 63", "signal b 1 0 0", "?"], 4, 0)
        self.wrong_lines(["fibre a a 1 d"], 1, 0)

    def test_the_net_of_a_layout(self):
        self.assertEqual(Layout.read(LAYOUT).net, ladder())
        self.assertEqual(Layout.read(str(line()) + "\nband 3").net, line())
