"""[19] to [21], and what [29] says of cores."""

import random
import unittest

from strikecore.building import beside, induced, on_top, opposite, product
from strikecore.cores import core, core_points, core_strikes, is_contractible, strike_fence, strike_map
from strikecore.errors import NotStrikable
from strikecore.maps import are_neighbours, check_map, compose
from strikecore.orders import check_order, greatest, least
from strikecore.steps import check_fence
from strikecore.strikes import is_core, is_finished, points_left
from tests import reference
from tests.reference import CROWN, EMPTY, HUGE, POINT, SMALL_ORDERS, VEE, WEDGE, antichain, chain, is_plain

RANDOM_ORDERS = reference.random_orders(60, 8, 41)
ORDERS = SMALL_ORDERS + [CROWN, reference.ring(3), reference.ring(5)] + RANDOM_ORDERS
CROWN_WITH_TOP = (5, ((0, 2), (0, 3), (0, 4), (1, 2), (1, 3), (1, 4), (2, 4), (3, 4)))

# The order W of the document: a core of nine points.
W = (
    9,
    ((0, 3), (0, 4), (0, 6), (0, 7), (0, 8), (1, 3), (1, 5), (1, 6), (1, 7), (1, 8), (2, 4), (2, 5))
    + ((2, 6), (2, 7), (2, 8), (3, 6), (3, 7), (3, 8), (4, 6), (4, 8), (5, 7), (5, 8)),
)


class TestCoreStrikes(unittest.TestCase):
    def test_examples(self):
        self.assertEqual(core_strikes((2, ((1, 0),))), ((0, "down"),))
        self.assertEqual(core_strikes((3, ((0, 1), (0, 2)))), ((1, "down"), (0, "up")))
        self.assertEqual(core_points((3, ((0, 1), (0, 2)))), (2,))
        self.assertEqual(core_strikes(CROWN), ())
        self.assertEqual(core(CROWN), CROWN)
        self.assertEqual(core_strikes(CROWN_WITH_TOP), ((2, "up"), (0, "up"), (1, "up"), (3, "up")))

    def test_down_comes_ahead_of_up(self):
        order = (3, ((1, 0), (1, 2), (0, 2)))
        order = (3, tuple(sorted(order[1])))
        self.assertEqual(core_strikes(order), ((0, "down"), (1, "up")))

    def test_the_least_point_is_struck_again_and_again(self):
        # Striking 2 lets 0 be struck, ahead of 3.
        self.assertEqual(core_strikes(chain(4)), ((0, "up"), (1, "up"), (2, "up")))
        self.assertEqual(core_strikes(order=opposite(chain(4))), ((0, "down"), (1, "down"), (2, "down")))

    def test_cores(self):
        for order in (EMPTY, POINT, antichain(3), CROWN, reference.ring(4), W):
            self.assertEqual(core_strikes(order), ())
            self.assertEqual(core_points(order=order), tuple(range(order[0])))
            self.assertEqual(core(order=order), order)
            self.assertIs(is_core(order), True)

    def test_against_the_words(self):
        for order in ORDERS:
            row = reference.core_strikes(order)
            left = reference.left_by(order, row)
            self.assertEqual(core_strikes(order), row)
            self.assertEqual(core_points(order), left)
            self.assertEqual(core(order), reference.induced(order, left))
            self.assertIs(is_finished(order, core_strikes(order)), True)
            self.assertIs(is_core(core(order)), True)
            self.assertIsNone(check_order(core(order)))
            self.assertTrue(is_plain(core_strikes(order)) and is_plain(core_points(order)) and is_plain(core(order)))

    def test_whatever_row_is_taken_what_is_left_is_alike(self):
        source = random.Random(42)
        for order in RANDOM_ORDERS:
            row = reference.random_row(order, source)
            self.assertIs(is_finished(order, row), True)
            left = induced(order, points_left(order, row))
            self.assertTrue(reference.are_alike(left, core(order)))

    def test_64_points(self):
        self.assertEqual(core_strikes(chain(64)), tuple((x, "up") for x in range(63)))
        self.assertEqual(core(product(CROWN, chain(16))), product(CROWN, POINT))
        self.assertEqual(core_strikes(reference.ring(32)), ())
        self.assertEqual(core_points(beside(chain(32), chain(32))), (31, 63))


class TestStrikeMaps(unittest.TestCase):
    def test_some(self):
        self.assertEqual(strike_map(CROWN, ()), (0, 1, 2, 3))
        self.assertEqual(strike_fence(CROWN, ()), ((0, 1, 2, 3),))
        self.assertEqual(strike_map(EMPTY, ()), ())
        self.assertEqual(strike_fence(EMPTY, ()), ((),))
        self.assertEqual(strike_map(VEE, ((1, "down"), (0, "up"))), (2, 2, 2))
        self.assertEqual(strike_map(VEE, ((1, "down"),)), (0, 0, 2))
        rows = strike_fence(order=VEE, strikes=((1, "down"), (0, "up")))
        self.assertEqual(rows, ((0, 1, 2), (0, 0, 2), (2, 2, 2)))
        self.assertEqual(strike_map(order=chain(4), strikes=((2, "up"), (1, "down"), (3, "down"))), (0, 0, 0, 0))

    def test_example_of_the_crown_with_a_top(self):
        row = core_strikes(CROWN_WITH_TOP)
        rows = ((0, 1, 2, 3, 4), (0, 1, 4, 3, 4), (3, 1, 4, 3, 4), (3, 3, 4, 3, 4), (4, 4, 4, 4, 4))
        self.assertEqual(strike_fence(CROWN_WITH_TOP, row), rows)

    def test_random_rows(self):
        source = random.Random(43)
        for order in ORDERS:
            for length in (0, 1, 2, 4, None):
                row = reference.random_row(order, source, length)
                self.check(order, row)

    def check(self, order, row):
        left = points_left(order, row)
        rows = strike_fence(order, row)
        self.assertTrue(is_plain(rows))
        self.assertEqual(len(rows), len(row) + 1)
        self.assertEqual(rows[0], tuple(range(order[0])))
        self.assertEqual(strike_map(order, row), rows[-1])
        self.assertIs(check_fence(order, order, rows), True)
        for j in range(len(row) + 1):
            self.assertEqual(rows[j], reference.led_on(order, row[:j]))
            self.assertEqual(strike_map(order, row[:j]), rows[j])
            self.assertTrue(all(rows[j][x] == x for x in left))
        self.assertEqual(set(rows[-1]), set(left))
        self.assertEqual(compose(rows[-1], rows[-1]), rows[-1])

    def test_rows_that_cannot_be_made(self):
        for strikes, at in (
            (((0, "up"),), 0),
            (((1, "up"), (2, "down")), 0),
            (((1, "down"), (1, "down")), 1),
            (((1, "down"), (2, "down"), (0, "up")), 2),
            (((1, "down"), (HUGE, "up")), 1),
            (((-1, "down"),), 0),
        ):
            for function in (points_left, strike_map, strike_fence):
                with self.assertRaises(NotStrikable) as caught:
                    function(VEE, strikes)
                self.assertEqual(caught.exception.at, at)

    def test_64_points(self):
        row = core_strikes(chain(64))
        rows = strike_fence(chain(64), row)
        self.assertEqual(rows[-1], (63,) * 64)
        self.assertEqual(rows[5], (5,) * 5 + tuple(range(5, 64)))
        self.assertIs(check_fence(chain(64), chain(64), rows), True)


class TestContractible(unittest.TestCase):
    def test_some(self):
        self.assertIs(is_contractible(EMPTY), False)
        self.assertIs(is_contractible(POINT), True)
        self.assertIs(is_contractible(antichain(2)), False)
        self.assertIs(is_contractible(order=CROWN), False)
        self.assertIs(is_contractible(CROWN_WITH_TOP), True)
        self.assertIs(is_contractible(VEE), True)
        self.assertIs(is_contractible(WEDGE), True)
        self.assertIs(is_contractible(W), False)
        self.assertIs(is_contractible(chain(64)), True)
        self.assertIs(is_contractible((4, ((0, 1), (2, 1), (2, 3)))), True)
        self.assertIs(is_contractible(beside(chain(2), POINT)), False)

    def test_orders_with_a_least_or_a_greatest_point(self):
        for order in ORDERS:
            self.assertIs(is_contractible(order), len(reference.core_strikes(order)) == order[0] - 1)
            if least(order) is not None or greatest(order) is not None:
                self.assertIs(is_contractible(order), True)
            self.assertIs(is_contractible(on_top(order, POINT)), True)
            self.assertIs(is_contractible(on_top(POINT, order)), True)

    def test_contractible_if_and_only_if_the_identity_is_led_into_a_map_to_one_point(self):
        for order in SMALL_ORDERS + [CROWN] + reference.all_orders(4)[::11]:
            if order[0]:
                self.assertIs(is_contractible(order), leads_to_one_point(order))


def leads_to_one_point(order):
    """Goes along fences from the identity."""
    rows = reference.maps_by_trying(order, order)
    reached = [tuple(range(order[0]))]
    for row in reached:
        reached.extend([other for other in rows if other not in reached and are_neighbours(order, row, other)])
    return any(len(set(row)) == 1 for row in reached)


class TestCoresOfBuiltOrders(unittest.TestCase):
    """[29]"""

    PAIRS = [(first, second) for first in reference.random_orders(8, 4, 44) for second in reference.random_orders(8, 3, 45)]

    def test_beside(self):
        for first, second in self.PAIRS:
            self.assertTrue(reference.are_alike(core(beside(first, second)), beside(core(first), core(second))))

    def test_product(self):
        for first, second in self.PAIRS + [(CROWN, VEE), (VEE, antichain(2)), (CROWN, antichain(2))]:
            self.assertTrue(reference.are_alike(core(product(first, second)), product(core(first), core(second))))

    def test_on_top(self):
        for first, second in self.PAIRS + [(CROWN, CROWN), (CROWN, VEE), (VEE, CROWN)]:
            if first[0] and second[0]:
                expected = is_contractible(first) or is_contractible(second)
                self.assertIs(is_contractible(on_top(first, second)), expected)

    def test_opposite(self):
        for order in ORDERS:
            self.assertTrue(reference.are_alike(core(opposite(order)), opposite(core(order))))

    def test_values_of_a_map_near_the_identity_that_is_itself_again(self):
        for order in SMALL_ORDERS + [CROWN, CROWN_WITH_TOP]:
            for row in reference.maps_by_trying(order, order):
                if compose(row, row) == row and are_neighbours(order, row, tuple(range(order[0]))):
                    self.assertIsNone(check_map(order, order, row))
                    part = induced(order, tuple(sorted(set(row))))
                    self.assertTrue(reference.are_alike(core(part), core(order)))
