"""Promises [5] and [25]: charts of layouts and of ticks."""

import unittest

from everlit.charts import chart, ticks_chart
from everlit.chains import lifted
from everlit.clashes import occupants
from everlit.layouts import Layout
from everlit.nets import Net
from everlit.ticks import schedule
from tests.samples import crowd, generator, line
from tests.test_chains import stack
from tests.test_layout_methods import random_layout

CROWD = """  0 AAD.......
  1 .CC.......
  2 ..D.####FF
  3 ....BBBB..
  4 .......EEE
  5 ....FFFFFF
A one          0    2 0
B one*         4    4 3,2
C one+         1    2 1
D two          2    1 0,2
E wide         7    3 4
F wide*        4    6 2,5"""


class ChartTest(unittest.TestCase):
    def test_the_crowd(self):
        self.assertEqual(chart(crowd()), CROWD)

    def test_slots_that_several_items_hold(self):
        # The reserves of signals that no single cut strikes together may share slots.
        layout = Layout(line(), 5, {"a": 2, "b": 2}, {
            "a": ((0,), 0), "b": ((1,), 1), "a*": ((2,), 1), "b*": ((2,), 2)})
        self.assertEqual(chart(layout=layout), "\n".join([
            "  0 AA...", "  1 .CC..", "  2 .B#D.",
            "A a            0    2 0", "B a*           1    2 2", "C b            1    2 1", "D b*           2    2 2"]))

    def test_no_items_one_fibre_and_sixteen(self):
        self.assertEqual(chart(Layout(Net(("a", "b", 1, "p")), 1, {}, {})), "  0 .")
        letters = "abcdefghijklmnopq"
        net = Net(*[(letters[at], letters[at + 1], 1, "d") for at in range(16)])
        route = tuple(range(16))
        layout = Layout(net, 64, {"abcdefgh": 16}, {"abcdefgh": (route, 48)})
        lines = chart(layout).split("\n")
        self.assertEqual(len(lines), 17)
        self.assertEqual(lines[9], "  9 " + "." * 48 + "A" * 16)
        self.assertEqual(lines[10], " 10 " + "." * 48 + "A" * 16)
        self.assertEqual(lines[16], "A abcdefgh    48   16 0,1,2,3,4,5,6,7,8,9,10,11,12,13,14,15")

    def test_long_names_with_signs(self):
        net = Net(*[("a", "b", 1, duct) for duct in "pqr"], reach=[(1, 8)])
        layout = Layout(net, 64, {"abcdefgh": 8}, {
            "abcdefgh": ((0,), 0), "abcdefgh+": ((1,), 0), "abcdefgh*": ((2,), 0)})
        self.assertEqual(chart(layout).split("\n")[3:], [
            "A abcdefgh     0   64 0", "B abcdefgh*    0   64 2", "C abcdefgh+    0   64 1"])

    def test_the_most_items(self):
        net = Net(*[("a", "b", 1, duct) for duct in "pqr"])
        rates = {name: 1 for name in "abcdefghijkl"}
        spots = {name: ((0,), at) for at, name in enumerate(rates)}
        spots.update({name + "*": ((1,), at) for at, name in enumerate(rates)})
        spots["a+"] = ((2,), 0)
        lines = chart(Layout(net, 13, rates, spots)).split("\n")
        self.assertEqual(lines[0], "  0 ADFHJLNPRTVX.")
        self.assertEqual(lines[1], "  1 BEGIKMOQSUWY.")
        self.assertEqual(lines[2], "  2 C............")
        self.assertEqual(len(lines), 28)
        self.assertEqual(lines[-1], "Y l*          11    1 1")

    def test_any_layout(self):
        rng = generator(270)
        for _ in range(80):
            layout = random_layout(rng)
            lines = chart(layout).split("\n")
            many = len(layout.net)
            letters = dict(zip("ABCDEFGHIJKLMNOPQRSTUVWXYZ", sorted(layout.spots)))
            self.assertEqual(len(lines), many + len(layout))
            for index in range(many):
                self.assertEqual(lines[index][:4], str(index).rjust(3) + " ")
                for sign, items in zip(lines[index][4:], occupants(layout, index), strict=True):
                    told = {".": (), "#": items if len(items) > 1 else None}.get(sign, (letters.get(sign),))
                    self.assertEqual(told, items)
            for told, (letter, item) in zip(lines[many:], letters.items(), strict=True):
                self.assertEqual((told[:2], told[2:12].rstrip()), (letter + " ", item))
                self.assertEqual((int(told[12:16]), int(told[16:21])), (layout[item][1], layout.width(item)))
                self.assertEqual(tuple(map(int, told[22:].split(","))), layout[item][0])


class TicksChartTest(unittest.TestCase):
    def test_lines(self):
        self.assertEqual(ticks_chart([]), "")
        self.assertEqual(ticks_chart(()), "")
        self.assertEqual(ticks_chart(ticks=[()]), "")
        self.assertEqual(ticks_chart([(), []]), "\n")
        self.assertEqual(ticks_chart([(("a", 1),)]), "a up")
        self.assertEqual(ticks_chart([[("b", -1), ("a*", 1), ("a", 1), ("a+", -1)], (), (("abcdefgh*", -1),)]),
                         "a up, a* up, a+ down, b down\n\nabcdefgh* down")

    def test_the_argument_is_not_changed(self):
        ticks = [[("b", -1), ("a", 1)]]
        ticks_chart(ticks)
        self.assertEqual(ticks, [[("b", -1), ("a", 1)]])

    def test_schedules(self):
        first = stack(1, 2, band=6)
        ticks = schedule(first, lifted(first))
        self.assertEqual(ticks_chart(ticks), "b up\na up, b up\na up, b up\na up")
        rng = generator(271)
        for _ in range(40):
            layout = random_layout(rng)
            ticks = schedule(layout, lifted(layout))
            lines = ticks_chart([rng.sample(tick, len(tick)) for tick in ticks]).split("\n")
            self.assertEqual(len(lines), max(1, len(ticks)))
            for told, tick in zip(lines, ticks):
                self.assertEqual(told, ", ".join(f"{item} {'up' if step == 1 else 'down'}" for item, step in tick))
