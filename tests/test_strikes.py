"""[17], [18]: striking points."""

import random
import unittest

from strikecore.errors import NotStrikable
from strikecore.strikes import is_core, is_finished, partner, points_left, strikes_of
from tests import reference
from tests.reference import CROWN, EMPTY, HUGE, POINT, SMALL_ORDERS, VEE, WEDGE, antichain, chain, is_plain

RANDOM_ORDERS = reference.random_orders(40, 7, 31)
ORDERS = SMALL_ORDERS + [CROWN, reference.ring(3)] + RANDOM_ORDERS
WAYS = ("down", "up")


class TestStrikesOf(unittest.TestCase):
    def test_some(self):
        self.assertEqual(strikes_of(EMPTY, ()), ())
        self.assertEqual(strikes_of(POINT, (0,)), ())
        self.assertEqual(strikes_of(CROWN, (0, 1, 2, 3)), ())
        self.assertEqual(strikes_of(CROWN, ()), ())
        self.assertEqual(strikes_of(chain(2), (0, 1)), ((0, "up"), (1, "down")))
        self.assertEqual(strikes_of(VEE, (0, 1, 2)), ((1, "down"), (2, "down")))
        self.assertEqual(strikes_of(WEDGE, (0, 1, 2)), ((0, "up"), (1, "up")))
        self.assertEqual(strikes_of(order=chain(3), points=(0, 1, 2)), ((0, "up"), (1, "down"), (1, "up"), (2, "down")))

    def test_points_that_no_row_leaves(self):
        self.assertEqual(strikes_of(CROWN, (0, 1, 2)), ((0, "up"), (1, "up")))
        self.assertEqual(strikes_of(CROWN, (0, 2, 3)), ((2, "down"), (3, "down")))
        self.assertEqual(strikes_of(CROWN, (0, 2)), ((0, "up"), (2, "down")))
        self.assertEqual(strikes_of(CROWN, (2, 3)), ())
        self.assertEqual(strikes_of(chain(4), (0, 3)), ((0, "up"), (3, "down")))
        self.assertEqual(strikes_of(chain(4), (1,)), ())

    def test_a_greatest_point_below_that_is_not_the_greatest_number(self):
        order = (4, ((1, 0), (1, 3), (2, 0), (2, 1), (2, 3)))
        self.assertEqual(strikes_of(order, (0, 1, 2, 3)), ((0, "down"), (1, "down"), (2, "up"), (3, "down")))

    def test_all_tuples_of_points(self):
        for order in ORDERS:
            for points in reference.subsets(order[0]):
                strikes = strikes_of(order, points)
                self.assertEqual(strikes, reference.strikes_of(order, points))
                self.assertTrue(is_plain(strikes))

    def test_64_points(self):
        points = tuple(range(64))
        every = [(x, way) for x in range(64) for way in WAYS]
        self.assertEqual(strikes_of(chain(64), points), tuple(every[1:-1]))
        self.assertEqual(strikes_of(antichain(64), points), ())
        self.assertEqual(strikes_of(reference.ring(32), points), ())
        self.assertEqual(strikes_of(reference.ring(32), points[1:]), ((32, "down"), (63, "down")))


class TestPartner(unittest.TestCase):
    def test_some(self):
        self.assertEqual(partner(chain(3), (0, 1, 2), (1, "down")), 0)
        self.assertEqual(partner(chain(3), (0, 1, 2), (1, "up")), 2)
        self.assertEqual(partner(chain(3), (0, 1, 2), (0, "up")), 1)
        self.assertEqual(partner(chain(3), (0, 2), (0, "up")), 2)
        self.assertEqual(partner(order=chain(3), points=(0, 1, 2), strike=(2, "down")), 1)
        self.assertEqual(partner(CROWN, (0, 1, 3), (1, "up")), 3)

    def test_all_tuples_of_points(self):
        for order in ORDERS:
            for points in reference.subsets(min(order[0], 5)):
                for x in range(-1, order[0] + 1):
                    for way in WAYS:
                        self.check(order, points, (x, way))

    def check(self, order, points, strike):
        expected = reference.partner(order, points, strike)
        if expected is not None:
            self.assertEqual(partner(order, points, strike), expected)
            return
        with self.assertRaises(NotStrikable) as caught:
            partner(order, points, strike)
        self.assertEqual(caught.exception.at, 0)

    def test_any_integer(self):
        for x in (-1, -2, -3, 3, 64, 65, HUGE, -HUGE):
            for way in WAYS:
                self.check(chain(3), (0, 1, 2), (x, way))
        self.check(EMPTY, (), (0, "down"))
        self.check(POINT, (0,), (0, "up"))

    def test_points_that_are_not_left(self):
        self.check(chain(3), (0, 2), (1, "down"))
        self.check(chain(3), (0, 2), (1, "up"))
        self.check(chain(3), (), (1, "up"))


class TestPointsLeft(unittest.TestCase):
    def test_rows_that_can_be_made(self):
        self.assertEqual(points_left(EMPTY, ()), ())
        self.assertEqual(points_left(POINT, ()), (0,))
        self.assertEqual(points_left(CROWN, ()), (0, 1, 2, 3))
        self.assertEqual(points_left(VEE, ((1, "down"), (0, "up"))), (2,))
        self.assertEqual(points_left(order=chain(4), strikes=((2, "up"), (1, "up"))), (0, 3))
        self.assertEqual(points_left(chain(64), tuple((x, "up") for x in range(63))), (63,))

    def test_rows_that_fail(self):
        for strikes, at in (
            (((0, "up"), (1, "down")), 0),
            (((1, "up"),), 0),
            (((1, "down"), (0, "down"), (9, "up")), 1),
            (((1, "down"), (1, "down"), (0, "up")), 1),
            (((1, "down"), (2, "down"), (0, "up")), 2),
            (((1, "down"), (2, "down"), (0, "down")), 2),
            (((1, "down"), (-1, "down")), 1),
            (((1, "down"), (3, "up")), 1),
            (((HUGE, "up"),), 0),
            (((-HUGE, "down"),), 0),
        ):
            for function in (points_left, is_finished):
                with self.assertRaises(NotStrikable) as caught:
                    function(VEE, strikes)
                self.assertEqual(caught.exception.at, at, strikes)

    def test_random_rows(self):
        source = random.Random(32)
        for order in ORDERS:
            for length in (None, 0, 1, 2, 3):
                row = reference.random_row(order, source, length)
                left = reference.left_by(order, row)
                self.assertEqual(points_left(order, row), left)
                self.assertTrue(is_plain(points_left(order, row)))
                self.assertIs(is_finished(order, row), not reference.strikes_of(order, left))
                self.check_one_more(order, row, left)

    def check_one_more(self, order, row, left):
        """Each strike behind the row is taken if and only if it can be made."""
        for x in range(order[0]):
            for way in WAYS:
                if reference.partner(order, left, (x, way)) is not None:
                    self.assertEqual(points_left(order, row + ((x, way),)), tuple(y for y in left if y != x))
                else:
                    with self.assertRaises(NotStrikable) as caught:
                        points_left(order, row + ((x, way), (0, "up")))
                    self.assertEqual(caught.exception.at, len(row))


class TestFinished(unittest.TestCase):
    def test_is_finished(self):
        self.assertIs(is_finished(EMPTY, ()), True)
        self.assertIs(is_finished(POINT, ()), True)
        self.assertIs(is_finished(CROWN, ()), True)
        self.assertIs(is_finished(VEE, ()), False)
        self.assertIs(is_finished(VEE, ((1, "down"),)), False)
        self.assertIs(is_finished(order=VEE, strikes=((1, "down"), (2, "down"))), True)

    def test_is_core(self):
        self.assertIs(is_core(EMPTY), True)
        self.assertIs(is_core(POINT), True)
        self.assertIs(is_core(antichain(2)), True)
        self.assertIs(is_core(order=CROWN), True)
        self.assertIs(is_core(VEE), False)
        for n in (2, 3, 64):
            self.assertIs(is_core(chain(n)), False)
        self.assertIs(is_core(reference.ring(32)), True)
        self.assertIs(is_core(antichain(64)), True)
        for order in ORDERS:
            self.assertIs(is_core(order), not reference.strikes_of(order, tuple(range(order[0]))))
