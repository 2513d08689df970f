"""[41], [42]: weak strikes."""

import random
import unittest

from strikecore.building import beside, induced, on_top, opposite, product
from strikecore.cores import core_strikes, is_contractible
from strikecore.errors import NotStrikable
from strikecore.orders import order_of
from strikecore.strikes import is_core, strikes_of
from strikecore.weak import weak_left, weak_row, weak_strikes_of
from tests import reference
from tests.reference import CROWN, EMPTY, HUGE, POINT, SMALL_ORDERS, VEE, WEDGE
from tests.reference import antichain, chain, is_plain, left_by, random_orders, random_weak_row, ring, shuffled, subsets

W_LINKS = ((0, 3), (1, 3), (0, 4), (2, 4), (1, 5), (2, 5), (3, 6), (4, 6), (3, 7), (5, 7), (3, 8), (4, 8), (5, 8))
W = order_of(9, W_LINKS)
W_ROW = (
    ((2, "above"), (4, "below"), (0, "above"), (3, "below"))
    + ((5, "below"), (6, "below"), (7, "below"), (1, "above"))
)
ORDERS = SMALL_ORDERS + [CROWN, W, ring(3), on_top(CROWN, antichain(2))] + random_orders(40, 7, 151, smallest=4)

# Above the least point stands W, which can be struck to one point only by weak strikes.
POINT_BELOW_W = on_top(POINT, W)


def place_of_fault(order, strikes):
    try:
        weak_left(order, strikes)
    except NotStrikable as error:
        return error.at
    return None


class TestWeakStrikesOf(unittest.TestCase):
    def test_some(self):
        self.assertEqual(weak_strikes_of(VEE, (0, 1, 2)), ((1, "below"), (2, "below")))
        self.assertEqual(weak_strikes_of(WEDGE, (0, 1, 2)), ((0, "above"), (1, "above")))
        self.assertEqual(weak_strikes_of(order=chain(3), points=(0, 2)), ((0, "above"), (2, "below")))
        self.assertEqual(weak_strikes_of(chain(3), (0, 1, 2)), ((0, "above"), (1, "above"), (1, "below"), (2, "below")))
        self.assertEqual(weak_strikes_of(CROWN, (0, 1, 2, 3)), ())
        self.assertEqual(weak_strikes_of(CROWN, (0, 2, 3)), ((2, "below"), (3, "below")))

    def test_no_points(self):
        for order in ORDERS:
            self.assertEqual(weak_strikes_of(order, ()), ())
            for x in range(order[0]):
                self.assertEqual(weak_strikes_of(order, (x,)), ())

    def test_more_than_strikes(self):
        self.assertIs(is_core(W), True)
        self.assertEqual(weak_strikes_of(W, tuple(range(9))), reference.weak_strikes_of(W, tuple(range(9))))
        self.assertIn((2, "above"), weak_strikes_of(W, tuple(range(9))))
        # A fence of points is contractible, but has neither a greatest nor a least point.
        order = on_top(POINT, (4, ((0, 1), (2, 1), (2, 3))))
        self.assertIn((0, "above"), weak_strikes_of(order, tuple(range(5))))
        self.assertNotIn((0, "up"), strikes_of(order, tuple(range(5))))

    def test_what_is_above_has_to_be_contractible_and_not_only_of_weak_rows(self):
        # W has a weak row that leaves one point, but is a core of its own.
        self.assertNotIn((0, "above"), weak_strikes_of(POINT_BELOW_W, tuple(range(10))))
        self.assertNotIn((9, "below"), weak_strikes_of(on_top(W, POINT), tuple(range(10))))

    def test_all_parts_against_the_words(self):
        for order in ORDERS:
            parts = subsets(order[0])
            for points in parts if len(parts) < 40 else random.Random(152).sample(parts, 12) + parts[-1:]:
                found = weak_strikes_of(order, points)
                self.assertEqual(found, reference.weak_strikes_of(order, points))
                self.assertTrue(is_plain(found))

    def test_strikes_are_weak_strikes(self):
        for order in ORDERS:
            for points in (tuple(range(order[0])), tuple(range(0, order[0], 2))):
                weak = weak_strikes_of(order, points)
                for x, way in strikes_of(order, points):
                    self.assertIn((x, "below" if way == "down" else "above"), weak)

    def test_64_points(self):
        both = [(x, way) for x in range(1, 63) for way in ("above", "below")]
        expected = ((0, "above"),) + tuple(both) + ((63, "below"),)
        self.assertEqual(weak_strikes_of(chain(64), tuple(range(64))), expected)
        self.assertEqual(weak_strikes_of(antichain(64), tuple(range(64))), ())


class TestWeakLeft(unittest.TestCase):
    def test_some(self):
        self.assertEqual(weak_left(EMPTY, ()), ())
        self.assertEqual(weak_left(CROWN, ()), (0, 1, 2, 3))
        self.assertEqual(weak_left(VEE, ((2, "below"),)), (0, 1))
        self.assertEqual(weak_left(order=VEE, strikes=((2, "below"), (0, "above"))), (1,))
        self.assertEqual(weak_left(W, W_ROW), (8,))
        self.assertEqual(weak_left(W, W_ROW[:3]), (1, 3, 5, 6, 7, 8))

    def test_random_rows(self):
        source = random.Random(153)
        for order in ORDERS:
            for length in (0, 1, 3, None):
                row = random_weak_row(order, source, length)
                self.assertEqual(weak_left(order, row), left_by(order, row))
                self.assertTrue(is_plain(weak_left(order, row)))

    def test_the_first_strike_that_cannot_be_made(self):
        source = random.Random(154)
        for order in ORDERS:
            row = random_weak_row(order, source, source.randint(0, 4))
            points = left_by(order, row)
            every = [(x, way) for x in range(-1, order[0] + 1) for way in ("above", "below")]
            for strike in every + [(HUGE, "above"), (-HUGE, "below"), (64, "above")]:
                allowed = strike in reference.weak_strikes_of(order, points)
                self.assertEqual(place_of_fault(order, row + (strike,)), None if allowed else len(row))
                if not allowed:
                    self.assertEqual(place_of_fault(order, row + (strike, (HUGE, "above"))), len(row))

    def test_points_that_are_struck_twice_or_are_out_of_range(self):
        good = ((1, "below"), (2, "below"))
        self.assertEqual(place_of_fault(VEE, good), None)
        for strike in ((1, "below"), (2, "above"), (3, "below"), (-1, "below"), (HUGE, "above"), (-HUGE, "above")):
            self.assertEqual(place_of_fault(VEE, good + (strike,)), 2)
            self.assertEqual(place_of_fault(VEE, good[:1] + ((1, "above"),) + good), 1)
            self.assertEqual(place_of_fault(VEE, ((-1, "below"), strike)), 0)

    def test_the_last_point_cannot_be_struck(self):
        self.assertEqual(place_of_fault(POINT, ((0, "below"),)), 0)
        self.assertEqual(place_of_fault(POINT, ((0, "above"),)), 0)
        self.assertEqual(place_of_fault(W, W_ROW + ((8, "below"),)), 8)
        self.assertEqual(place_of_fault(EMPTY, ((0, "above"),)), 0)


class TestWeakRow(unittest.TestCase):
    def test_example(self):
        self.assertIs(is_core(W), True)
        self.assertIs(is_contractible(W), False)
        self.assertEqual(weak_row(W), W_ROW)
        self.assertEqual(weak_left(W, weak_row(W)), (8,))

    def test_some(self):
        for order in (EMPTY, POINT, CROWN, antichain(5), ring(3), antichain(64), ring(32)):
            self.assertEqual(weak_row(order), ())
        self.assertEqual(weak_row(order=VEE), ((1, "below"), (0, "above")))
        self.assertEqual(weak_row(chain(3)), ((0, "above"), (1, "above")))
        self.assertEqual(weak_row(opposite(chain(3))), ((0, "below"), (1, "below")))

    def test_below_comes_ahead_of_above(self):
        self.assertEqual(weak_row((3, ((0, 2), (1, 0), (1, 2)))), ((0, "below"), (1, "above")))

    def test_against_the_words(self):
        for order in ORDERS:
            row = weak_row(order)
            self.assertEqual(row, reference.weak_row(order))
            self.assertTrue(is_plain(row))
            self.assertEqual(weak_strikes_of(order, weak_left(order, row)), ())

    def test_cores_with_weak_rows_that_are_not_empty(self):
        source = random.Random(155)
        cores = [opposite(W), shuffled(W, source), beside(W, POINT), on_top(W, antichain(2)), shuffled(W, source)]
        for order in cores:
            self.assertIs(is_core(order), True)
            self.assertNotEqual(weak_row(order), ())
            self.assertEqual(weak_row(order), reference.weak_row(order))

    def test_contractible_orders_leave_one_point(self):
        for order in ORDERS:
            if is_contractible(order):
                self.assertEqual(len(weak_row(order)), order[0] - 1)
            self.assertGreaterEqual(len(weak_row(order)), 0 if is_core(order) else 1)

    def test_64_points(self):
        self.assertEqual(weak_row(chain(64)), tuple((x, "above") for x in range(63)))
        cube = order_of(64, tuple((x, x | 1 << i) for x in range(64) for i in range(6) if not x >> i & 1))
        self.assertEqual(len(weak_row(cube)), 63)
        self.assertEqual(weak_row(induced(cube, tuple(range(1, 63)))), ())
        order = product(W, chain(7))
        self.assertEqual(len(weak_left(order, weak_row(order))), 1)
        self.assertEqual(len(core_strikes(order)), 54)
        for density in (0.05, 0.1, 0.2):
            order = reference.random_order(64, density, random.Random(156))
            self.assertEqual(weak_strikes_of(order, weak_left(order, weak_row(order))), ())
