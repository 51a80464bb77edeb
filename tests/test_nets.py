"""Promises [3] and [4]: fibres, stations, ducts and the reach; the class Net."""

import unittest

from everlit.errors import InvalidNet, NoDuct, NoFibre
from everlit.nets import Net
from tests.samples import STRANGE, ladder, line

GOOD = ("a", "b", 1, "d")


class NetTest(unittest.TestCase):
    def refused(self, word, index, *fibres, **more):
        with self.assertRaises(InvalidNet) as caught:
            Net(*fibres, **more)
        self.assertEqual((caught.exception.word, caught.exception.index), (word, index))
        self.assertIs(type(caught.exception.index), int)

    def test_properties(self):
        net = ladder()
        self.assertEqual(net.fibres, (
            ("a", "b", 100, "x"), ("a", "b", 200, "y"), ("b", "c", 100, "z"),
            ("a", "c", 250, "x"), ("c", "d", 50, "w"), ("b", "d", 300, "v"),
        ))
        self.assertEqual(net.stations, ("a", "b", "c", "d"))
        self.assertEqual(net.ducts, ("v", "w", "x", "y", "z"))
        self.assertEqual(net.reach, ((200, 1), (450, 2)))
        for value in (net.fibres, net.stations, net.ducts, net.reach):
            self.assertIs(type(value), tuple)

    def test_one_and_sixteen_fibres(self):
        self.assertEqual(Net(GOOD).fibres, (GOOD,))
        self.assertEqual(len(Net(*[GOOD] * 16)), 16)
        self.assertEqual(Net.MOST, 16)

    def test_edges_of_fibres(self):
        for fibre in [
            ("a", "b", 10000, "d"), ("a", "b", 1, "a"), ("abcdefgh", "z", 5, "hgfedcba"),
            ("fibre", "reach", 7, "band"),
        ]:
            with self.subTest(fibre=fibre):
                self.assertEqual(Net(fibre).fibres, (fibre,))

    def test_what_is_no_fibre(self):
        wrong = [value for value in STRANGE if not isinstance(value, list)]
        wrong += [
            ("a", "b", 1), ("a", "b", 1, "d", "e"), ("a", "a", 1, "d"), ("a", "b", 0, "d"),
            ("a", "b", 10001, "d"), ("a", "b", -1, "d"), ("a", "b", True, "d"), ("a", "b", "1", "d"),
            ("a", "b", None, "d"), ("A", "b", 1, "d"), ("a", "", 1, "d"), ("a", "abcdefghi", 1, "d"),
            ("a", "b", 1, ""), ("a", "b", 1, "d1"), ("a", "b", 1, None), (1, "b", 1, "d"),
            ("a", ["b"], 1, "d"), ("a", "b", [1], "d"), ("a", "b", 1, ["d"]), "abcd", ("a", "b+", 1, "d"),
        ]
        for value in wrong:
            with self.subTest(value=str(value)[:40]):
                self.refused("fibre", 0, value)
                self.refused("fibre", 1, GOOD, value)
                self.refused("fibre", 1, GOOD, value, None)
                self.refused("fibre", 15, *[GOOD] * 15, value)

    def test_no_fibres_and_too_many(self):
        self.refused("fibre", 0)
        self.refused("fibre", 0, [])
        self.refused("fibre", 16, *[GOOD] * 17)
        self.refused("fibre", 16, *[GOOD] * 16, None)
        self.refused("fibre", 16, *[GOOD] * 40)
        self.refused("fibre", 3, *[GOOD] * 3, None, *[GOOD] * 20)

    def test_fibres_come_ahead_of_the_reach(self):
        self.refused("fibre", 0, reach=None)
        self.refused("fibre", 1, GOOD, None, reach=None)
        self.refused("fibre", 16, *[GOOD] * 17, reach=((1, 1),) * 9)

    def test_lists_stand_for_their_entries(self):
        one, two, three = ("a", "b", 1, "d"), ("b", "c", 2, "d"), ("c", "d", 3, "e")
        for told in ([[one, two, three]], [one, [two, three]], [[one], [], [two], three]):
            self.assertEqual(Net(*told), Net(one, two, three))
        self.refused("fibre", 2, [one, two], None)
        self.refused("fibre", 1, [one, None], two)
        self.refused("fibre", 0, [[one]])
        self.refused("fibre", 0, ["a", "b", 1, "d"])
        self.refused("fibre", 0, (one, two))
        self.refused("fibre", 16, [one] * 10, [two] * 7)

    def test_right_reaches(self):
        six = tuple((10 * k + 10, k + 1) for k in range(6))
        for reach in ((), ((1, 1),), ((160000, 8),), ((1, 3), (2, 8)), six):
            with self.subTest(reach=reach):
                self.assertEqual(Net(GOOD, reach=reach).reach, reach)
                self.assertEqual(Net(GOOD, reach=list(reach)).reach, reach)
        self.assertEqual(Net(GOOD).reach, ())

    def test_what_is_no_reach(self):
        for value in STRANGE:
            if not isinstance(value, (list, tuple)):
                with self.subTest(value=str(value)[:40]):
                    self.refused("reach", 0, GOOD, reach=value)

    def test_what_is_no_row(self):
        wrong = STRANGE + [
            (5,), (5, 1, 1), [5, 1], (0, 1), (160001, 8), (5, 0), (5, 9), (True, 1), (5, True), ("5", 1),
            (5, "1"), (None, 1), (-5, 1), ([5], 1),
        ]
        for row in wrong:
            with self.subTest(row=str(row)[:40]):
                self.refused("reach", 0, GOOD, reach=[row])
                self.refused("reach", 0, GOOD, reach=(row, None))
                self.refused("reach", 2, GOOD, reach=[(1, 1), (2, 2), row])

    def test_rows_must_grow(self):
        for rows, index in [
            ([(5, 1), (5, 2)], 1), ([(5, 1), (4, 2)], 1), ([(5, 2), (6, 2)], 1), ([(5, 2), (6, 1)], 1),
            ([(5, 1), (6, 2), (6, 3)], 2), ([(5, 1), (6, 2), (7, 2)], 2), ([(5, 1), (5, 1)], 1),
        ]:
            with self.subTest(rows=rows):
                self.refused("reach", index, GOOD, reach=rows)
                self.refused("reach", index, GOOD, reach=tuple(rows))

    def test_seven_rows(self):
        seven = [(10 * k + 10, k + 1) for k in range(7)]
        self.refused("reach", 6, GOOD, reach=seven)
        self.refused("reach", 6, GOOD, reach=seven[:6] + [None])
        self.refused("reach", 3, GOOD, reach=seven[:3] + [None] + seven[3:])
        self.refused("reach", 6, GOOD, reach=[(10 * k + 10, k + 1) for k in range(8)])

    def test_fibres_by_index(self):
        net = ladder()
        self.assertEqual(len(net), 6)
        for index in range(6):
            self.assertEqual(net[index], net.fibres[index])
            self.assertEqual(net.duct_of(index), net.fibres[index][3])
            self.assertIs(index in net, True)
        for value in STRANGE + [6, -1, -6, "0", (0,), [0]]:
            if type(value) is int and 0 <= value < 6:
                continue
            with self.subTest(value=str(value)[:40]):
                self.assertIs(value in net, False)
                for ask in (net.__getitem__, net.duct_of):
                    with self.assertRaises(NoFibre) as caught:
                        ask(value)
                    self.assertIs(caught.exception.index, value)

    def test_index_is_passed_by_name(self):
        self.assertEqual(ladder().duct_of(index=3), "x")
        self.assertEqual(ladder().fibres_in(duct="x"), (0, 3))

    def test_fibres_in_a_duct(self):
        net = ladder()
        self.assertEqual(net.fibres_in("x"), (0, 3))
        self.assertEqual(net.fibres_in("w"), (4,))
        for value in [value for value in STRANGE] + ["q", "X", "a"]:
            with self.subTest(value=str(value)[:40]):
                with self.assertRaises(NoDuct) as caught:
                    net.fibres_in(value)
                self.assertIs(caught.exception.name, value)

    def test_equality(self):
        net = line((100, 2))
        self.assertTrue(net == line((100, 2)))
        self.assertFalse(net != line((100, 2)))
        turned = [(other, one, length, duct) for one, other, length, duct in net.fibres]
        self.assertTrue(net == Net(*turned, reach=[(100, 2)]))
        others = [
            line(), line((100, 3)), line((101, 2)), line((100, 2), (101, 3)), ladder(),
            Net(*net.fibres[:2], reach=net.reach), Net(*net.fibres, GOOD, reach=net.reach),
            Net(net.fibres[1], net.fibres[0], net.fibres[2], reach=net.reach),
        ]
        for other in others + STRANGE + [net.fibres, str(net)]:
            self.assertIs(net == other, False)
            self.assertIs(net != other, True)

    def test_repr(self):
        self.assertEqual(repr(ladder()), "Net(6 fibres, 2 rows)")
        self.assertEqual(repr(Net(GOOD)), "Net(1 fibres, 0 rows)")

    def test_no_iteration(self):
        self.assertRaises(TypeError, iter, ladder())
