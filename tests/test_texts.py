"""[60], [61]: orders, rows and strikes as texts."""

import itertools
import random
import unittest

from strikecore.building import beside, opposite
from strikecore.cores import core_strikes
from strikecore.errors import BadLine, RingFound
from strikecore.orders import order_of
from strikecore.texts import read_order, read_row, read_strikes, write_order, write_row, write_strikes
from strikecore.weak import weak_row
from tests.reference import CROWN, EMPTY, POINT, SMALL_ORDERS, VEE
from tests.reference import antichain, chain, covers, is_plain, random_order, random_orders, ring
from tests.test_weak import W, W_ROW

ORDERS = SMALL_ORDERS + [CROWN, opposite(CROWN), W, ring(4), chain(6)] + random_orders(20, 9, 251, smallest=4)
LARGE = [chain(64), opposite(chain(64)), antichain(64), ring(32), random_order(64, 0.1, random.Random(252))]
SIGNS = ("  ", ",", ", ", ".", "-", "+", "x", "\t", "\r", "\n", "_", " 1_0 ", " 0x1 ", " 1.0 ", "\x0b", "\x00", "^", " 007 ")
LONG = "9" * 5000


class Case(unittest.TestCase):
    def assert_bad_line(self, call, text, line):
        with self.assertRaises(BadLine) as caught:
            call(text)
        self.assertEqual(caught.exception.line, line, repr(text[:60]))


class TestWriteOrder(Case):
    def test_example(self):
        self.assertEqual(write_order(CROWN), "order 4\n\n\n0 1\n0 1")

    def test_some(self):
        self.assertEqual(write_order(EMPTY), "order 0")
        self.assertEqual(write_order(POINT), "order 1\n")
        self.assertEqual(write_order(order=antichain(3)), "order 3\n\n\n")
        self.assertEqual(write_order(chain(3)), "order 3\n\n0\n1")
        self.assertEqual(write_order(opposite(chain(3))), "order 3\n1\n2\n")
        self.assertEqual(write_order(opposite(CROWN)), "order 4\n2 3\n2 3\n\n")

    def test_against_the_words(self):
        for order in ORDERS + LARGE[2:4]:
            links = covers(order)
            lines = [f"order {order[0]}"]
            for y in range(order[0]):
                lines.append(" ".join(str(x) for x in range(order[0]) if (x, y) in links))
            self.assertEqual(write_order(order), "\n".join(lines))
            self.assertEqual(write_order(order).count("\n"), order[0])


class TestReadOrder(Case):
    def test_example(self):
        self.assertEqual(read_order("order 4\n\n\n0 1\n0 1"), CROWN)

    def test_some(self):
        self.assertEqual(read_order("order 0"), EMPTY)
        self.assertEqual(read_order("order 1\n"), POINT)
        self.assertEqual(read_order(text="order 3\n\n0\n1"), chain(3))
        self.assertEqual(read_order("order 12\n" + "\n" * 10 + "0\n0 1 2 3 4 5 6 7 8 9 10")[0], 12)

    def test_it_leads_back(self):
        for order in ORDERS + LARGE:
            found = read_order(write_order(order))
            self.assertEqual(found, order)
            self.assertTrue(is_plain(found))
            self.assertEqual(write_order(found), write_order(order))

    def test_numbers_below_that_are_not_covered(self):
        self.assertEqual(read_order("order 3\n\n0\n0 1"), chain(3))
        self.assertEqual(read_order("order 4\n\n0\n0 1\n0 2"), chain(4))
        for order in ORDERS:
            lines = [" ".join(str(x) for x, high in order[1] if high == y) for y in range(order[0])]
            self.assertEqual(read_order("\n".join([f"order {order[0]}"] + lines)), order)

    def test_rings(self):
        for text, points in (
            ("order 1\n0", (0,)),
            ("order 2\n1\n0", (0, 1)),
            ("order 3\n\n1\n1", (1,)),
            ("order 4\n\n0 3\n1\n2", (1, 2, 3)),
            ("order 4\n1\n0\n3\n2", (0, 1, 2, 3)),
        ):
            with self.assertRaises(RingFound) as caught:
                read_order(text)
            self.assertEqual(caught.exception.points, points)

    def test_the_first_line(self):
        for first in (
            "",
            "order",
            "order ",
            "order  1",
            " order 1",
            "order 1 ",
            "Order 1",
            "ORDER 1",
            "order1",
            "order\t1",
            "order 1 2",
            "order +1",
            "order -1",
            "order -0",
            "order 01",
            "order 00",
            "order 001",
            "order 1.0",
            "order 1_0",
            "order 0x1",
            "order one",
            "order 65",
            "order 100",
            "order 640",
            "order " + LONG,
            "order 0" + LONG,
            "order 1\r",
            "order 1,",
            "orders 1",
            "1",
            "1 order",
            "crown 1",
        ):
            for rest in ("", "\n", "\n\n", "\n0", "\nx\n"):
                self.assert_bad_line(read_order, first + rest, 1)

    def test_lines_of_points(self):
        for at in (0, 1, 2, 3):
            for wrong in (
                " ",
                " 0",
                "0 ",
                "0  1",
                "0\t1",
                "0,1",
                "1 0",
                "0 0",
                "0 2 1",
                "0 1 1",
                "4",
                "0 4",
                "10",
                "64",
                "-1",
                "+1",
                "-0",
                "00",
                "01",
                "0 01",
                "x",
                "0 x",
                "0 1 -",
                "1.",
                "1.0",
                "1_0",
                "0 " + LONG,
                LONG,
                "0" + LONG,
                "0\r",
                "\r",
                "order 4",
            ):
                lines = ["order 4", "", "", "0 1", "0 1"]
                lines[at + 1] = wrong
                self.assert_bad_line(read_order, "\n".join(lines), at + 2)
                # A wrong line comes ahead of the number of lines, and the first wrong one counts.
                self.assert_bad_line(read_order, "\n".join(lines + ["", ""]), at + 2)
                self.assert_bad_line(read_order, "\n".join(lines[: at + 2]), at + 2)
                for later in range(at + 1, 4):
                    self.assert_bad_line(read_order, "\n".join(lines[: later + 1] + ["?"] + lines[later + 2:]), at + 2)

    def test_too_few_lines(self):
        self.assert_bad_line(read_order, "order 1", 2)
        self.assert_bad_line(read_order, "order 4\n\n\n0 1", 5)
        self.assert_bad_line(read_order, "order 4\n\n\n", 5)
        self.assert_bad_line(read_order, "order 4", 2)
        self.assert_bad_line(read_order, "order 64", 2)
        for order in ORDERS + LARGE:
            lines = write_order(order).split("\n")
            for many in range(1, len(lines)):
                self.assert_bad_line(read_order, "\n".join(lines[:many]), many + 1)

    def test_too_many_lines(self):
        self.assert_bad_line(read_order, "order 0\n", 2)
        self.assert_bad_line(read_order, "order 0\n\n\n", 2)
        self.assert_bad_line(read_order, "order 1\n\n", 3)
        for order in ORDERS + LARGE:
            for more in ("\n", "\n\n\n", "\n0", "\n?\n", "\n" + LONG):
                self.assert_bad_line(read_order, write_order(order) + more, order[0] + 2)

    def test_a_line_ahead_of_rings(self):
        self.assert_bad_line(read_order, "order 2\n1\n0\n", 4)
        self.assert_bad_line(read_order, "order 3\n1\n0", 4)
        self.assert_bad_line(read_order, "order 3\n1\n0\n3", 4)
        self.assert_bad_line(read_order, "order 3\n0\n0 0\n0", 3)

    def test_the_order_with_the_fewest_pairs(self):
        source = random.Random(253)
        for _ in range(60):
            n = source.randint(1, 20)
            links = sorted({tuple(sorted(source.sample(range(n), 2))) for _ in range(n)} if n > 1 else set())
            names = source.sample(range(n), n)
            links = [(names[x], names[y]) for x, y in links]
            lines = [" ".join(str(x) for x in sorted(low for low, high in links if high == y)) for y in range(n)]
            self.assertEqual(read_order("\n".join([f"order {n}"] + lines)), order_of(n, tuple(links)))


class TestRows(Case):
    def test_some(self):
        self.assertEqual(write_row(()), "")
        self.assertEqual(read_row(""), ())
        self.assertEqual(write_row(row=(0,)), "0")
        self.assertEqual(write_row((3, 0, 63, 3)), "3 0 63 3")
        self.assertEqual(read_row(text="3 0 63 3"), (3, 0, 63, 3))

    def test_both_ways(self):
        source = random.Random(254)
        for length in list(range(20)) + [64, 1000, 5000]:
            row = tuple(source.randrange(64) for _ in range(length))
            text = " ".join(map(str, row))
            self.assertEqual(write_row(row), text)
            self.assertEqual(read_row(text), row)
            self.assertTrue(is_plain(read_row(text)))
        for value in range(64):
            self.assertEqual(read_row(str(value)), (value,))
            self.assertEqual(write_row((value,)), str(value))

    def test_other_forms(self):
        wrong = [
            " ", " 1", "1 ", "1  2", "1,2", "1, 2", "1\t2", "1\n2", "1\n", "\n", "1 2\n", "-1", "+1", "1 -2", "01", "00", "1 02",
            "64", "1 64", "65 1", "99", "100", "640", LONG, "1 " + LONG, "0" * 5000, "x", "1 x", "1.", "1.0", "1_0", "0x1",
            ".", "1;2", "(1, 2)", "None", "1\r", "\x00", "1 2 ",
        ]
        for text in wrong:
            self.assert_bad_line(read_row, text, 1)
        for good, sign in itertools.product(("1", "0 63"), SIGNS):
            self.assert_bad_line(read_row, good + sign + good, 1)
            self.assert_bad_line(read_row, good + " " + sign, 1)


class TestStrikes(Case):
    def test_some(self):
        self.assertEqual(write_strikes(()), "")
        self.assertEqual(read_strikes(""), ())
        self.assertEqual(write_strikes(strikes=((0, "down"),)), "0 down")
        every = ((63, "up"), (0, "down"), (7, "above"), (7, "below"), (10, "up"))
        self.assertEqual(write_strikes(every), "63 up, 0 down, 7 above, 7 below, 10 up")
        self.assertEqual(read_strikes(text="63 up, 0 down, 7 above, 7 below, 10 up"), every)
        self.assertEqual(write_strikes(W_ROW[:2]), "2 above, 4 below")

    def test_both_ways(self):
        source = random.Random(255)
        for length in list(range(20)) + [64, 2000]:
            ways = ("down", "up", "above", "below")
            strikes = tuple((source.randrange(64), source.choice(ways)) for _ in range(length))
            text = ", ".join(f"{x} {way}" for x, way in strikes)
            self.assertEqual(write_strikes(strikes), text)
            self.assertEqual(read_strikes(text), strikes)
            self.assertTrue(is_plain(read_strikes(text)))
        for order in ORDERS + LARGE:
            for row in (core_strikes(order), weak_row(order)):
                self.assertEqual(read_strikes(write_strikes(row)), row)

    def test_all_points_and_ways(self):
        for x, way in itertools.product(range(64), ("down", "up", "above", "below")):
            self.assertEqual(read_strikes(f"{x} {way}"), ((x, way),))
            self.assertEqual(write_strikes(((x, way),)), f"{x} {way}")

    def test_other_forms(self):
        for wrong in (
            " ", ",", ", ", "0", "down", "0down", "0 ", " down", "0  down", " 0 down", "0 down ", "down 0", "0 Down", "0 DOWN",
            "0 beside", "0 dow", "0 downs", "0 down 0", "-0 down", "-1 up", "+1 up", "01 up", "00 up", "64 up", "99 up", "100 up",
            LONG + " up", "0" * 5000 + " up", "x up", "1. up", "1_0 up", "0 up\n", "\n", "0\tup", "0 up\r", "0,up", "0 up;", "up up",
            "0 0", "(0, 'up')", "0 up,", "0 up, ", "0 up,1 up", "0 up , 1 up", "0 up,  1 up", "0 up 1 up", "0 up\n1 up", ", 0 up",
        ):
            self.assert_bad_line(read_strikes, wrong, 1)
            self.assert_bad_line(read_strikes, "5 above, " + wrong, 1)
            self.assert_bad_line(read_strikes, wrong + ", 5 above", 1)


class TestTogether(Case):
    def test_a_text_of_its_own(self):
        order = beside(CROWN, VEE)
        self.assertEqual(write_order(order), "order 7\n\n\n0 1\n0 1\n\n4\n4")
        self.assertEqual(read_order(write_order(order)), order)
