"""[3], [9], [10]: induced, opposite, beside, on_top and product."""

import unittest

from strikecore.building import beside, induced, on_top, opposite, product
from strikecore.errors import TooLarge
from strikecore.orders import check_order
from tests import reference
from tests.reference import CROWN, EMPTY, POINT, SMALL_ORDERS, VEE, WEDGE, antichain, chain, is_at_most, is_plain

RANDOM_ORDERS = reference.random_orders(25, 8, 5)
ORDERS = SMALL_ORDERS + [CROWN] + RANDOM_ORDERS
PAIRS = [(first, second) for first in ORDERS[::3] for second in ORDERS[1::4]]


def from_test(n, is_low):
    return (n, tuple((x, y) for x in range(n) for y in range(n) if is_low(x, y)))


class TestInduced(unittest.TestCase):
    def test_some(self):
        self.assertEqual(induced(CROWN, ()), EMPTY)
        self.assertEqual(induced(CROWN, (0, 1, 2, 3)), CROWN)
        self.assertEqual(induced(CROWN, (1,)), POINT)
        self.assertEqual(induced(CROWN, (0, 2, 3)), VEE)
        self.assertEqual(induced(order=CROWN, points=(0, 1, 3)), WEDGE)
        self.assertEqual(induced(CROWN, (2, 3)), antichain(2))
        self.assertEqual(induced(chain(64), tuple(range(1, 64, 2))), chain(32))
        self.assertEqual(induced(chain(64), tuple(range(64))), chain(64))
        self.assertEqual(induced(EMPTY, ()), EMPTY)

    def test_all_points_of_each_order(self):
        for order in ORDERS:
            for points in reference.subsets(min(order[0], 6)):
                self.assertEqual(induced(order, points), reference.induced(order, points))
            self.assertEqual(induced(order, tuple(range(order[0]))), order)


class TestOpposite(unittest.TestCase):
    def test_some(self):
        self.assertEqual(opposite(EMPTY), EMPTY)
        self.assertEqual(opposite(POINT), POINT)
        self.assertEqual(opposite(VEE), (3, ((1, 0), (2, 0))))
        self.assertEqual(opposite(order=CROWN), (4, ((2, 0), (2, 1), (3, 0), (3, 1))))
        self.assertEqual(opposite(chain(64)), from_test(64, lambda x, y: x > y))

    def test_turned_twice_it_is_the_order_again(self):
        for order in ORDERS:
            turned = opposite(order)
            self.assertEqual(turned, from_test(order[0], lambda x, y: (y, x) in order[1]))
            self.assertEqual(opposite(turned), order)


class TestBeside(unittest.TestCase):
    def test_some(self):
        self.assertEqual(beside(VEE, CROWN), (7, ((0, 1), (0, 2), (3, 5), (3, 6), (4, 5), (4, 6))))
        self.assertEqual(beside(first=chain(2), second=POINT), (3, ((0, 1),)))
        self.assertEqual(beside(first=POINT, second=chain(2)), (3, ((1, 2),)))

    def test_with_the_empty_order(self):
        for order in ORDERS:
            self.assertEqual(beside(order, EMPTY), order)
            self.assertEqual(beside(EMPTY, order), order)

    def test_against_the_words(self):
        for first, second in PAIRS:
            n = first[0]
            expected = from_test(n + second[0], lambda x, y: (x, y) in first[1] or (x - n, y - n) in second[1])
            self.assertEqual(beside(first, second), expected)


class TestOnTop(unittest.TestCase):
    def test_some(self):
        self.assertEqual(on_top(antichain(2), antichain(2)), CROWN)
        self.assertEqual(on_top(first=POINT, second=antichain(2)), VEE)
        self.assertEqual(on_top(first=antichain(2), second=POINT), WEDGE)
        self.assertEqual(on_top(chain(20), chain(44)), chain(64))

    def test_with_the_empty_order(self):
        for order in ORDERS:
            self.assertEqual(on_top(order, EMPTY), order)
            self.assertEqual(on_top(EMPTY, order), order)

    def test_against_the_words(self):
        for first, second in PAIRS:
            n = first[0]
            expected = from_test(
                n + second[0],
                lambda x, y: (x, y) in first[1] or (x - n, y - n) in second[1] or x < n <= y,
            )
            self.assertEqual(on_top(first, second), expected)


class TestProduct(unittest.TestCase):
    def test_some(self):
        self.assertEqual(product(chain(2), chain(2)), (4, ((0, 1), (0, 2), (0, 3), (1, 3), (2, 3))))
        self.assertEqual(product(first=chain(2), second=antichain(2)), (4, ((0, 2), (1, 3))))
        self.assertEqual(product(first=antichain(2), second=chain(2)), (4, ((0, 1), (2, 3))))

    def test_with_the_empty_order_and_with_one_point(self):
        for order in ORDERS:
            self.assertEqual(product(order, EMPTY), EMPTY)
            self.assertEqual(product(EMPTY, order), EMPTY)
            self.assertEqual(product(order, POINT), order)
            self.assertEqual(product(POINT, order), order)

    def test_against_the_words(self):
        for first, second in PAIRS:
            m = second[0]
            expected = from_test(
                first[0] * m,
                lambda x, y: x != y and is_at_most(first, x // m, y // m) and is_at_most(second, x % m, y % m),
            )
            self.assertEqual(product(first, second), expected)


class TestSizes(unittest.TestCase):
    def test_exactly_64_points(self):
        for first, second in ((chain(32), antichain(32)), (chain(64), EMPTY), (EMPTY, chain(64)), (CROWN, chain(60))):
            for made in (beside(first, second), on_top(first, second)):
                self.assertEqual(made[0], 64)
                self.assertIsNone(check_order(made))
        for first, second in ((chain(8), chain(8)), (CROWN, chain(16)), (chain(64), POINT), (POINT, chain(64))):
            made = product(first, second)
            self.assertEqual(made[0], 64)
            self.assertIsNone(check_order(made))

    def test_too_large(self):
        for first, second in ((chain(32), antichain(33)), (chain(64), POINT), (POINT, chain(64)), (chain(64), chain(64))):
            with self.assertRaises(TooLarge):
                beside(first, second)
            with self.assertRaises(TooLarge):
                on_top(first, second)
        for first, second in ((chain(5), chain(13)), (chain(64), chain(2)), (antichain(11), chain(6)), (chain(64), chain(64))):
            with self.assertRaises(TooLarge):
                product(first, second)

    def test_made_of_one_order(self):
        self.assertEqual(opposite(antichain(64)), antichain(64))
        self.assertEqual(induced(antichain(64), tuple(range(64))), antichain(64))
        with self.assertRaises(TooLarge):
            opposite(antichain(65))
        with self.assertRaises(TooLarge):
            induced(antichain(65), tuple(range(65)))

    def test_product_with_the_empty_order_is_never_too_large(self):
        self.assertEqual(product(chain(64), EMPTY), EMPTY)
        self.assertEqual(product(EMPTY, chain(64)), EMPTY)


class TestKinds(unittest.TestCase):
    def test_results_are_plain_orders(self):
        for first, second in PAIRS:
            for made in (beside(first, second), on_top(first, second), product(first, second), opposite(first)):
                self.assertTrue(is_plain(made))
                self.assertIsNone(check_order(made))

    def test_equal_calls_have_equal_results(self):
        for first, second in PAIRS[:20]:
            for function in (beside, on_top, product):
                self.assertEqual(function(first, second), function(first, second))
