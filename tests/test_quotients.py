"""[23], [24]: quotients, and the counts of maps that tell orders apart."""

import itertools
import random
import unittest

from strikecore.errors import TooLarge
from strikecore.maps import count_maps
from strikecore.orders import check_order
from strikecore.quotients import find_test, quotient
from strikecore.quotients import test_counts as counts_of
from tests import reference
from tests.reference import CROWN, EMPTY, HUGE, POINT, SMALL_ORDERS, VEE, WEDGE
from tests.reference import antichain, are_alike, beside, chain, is_plain, label_rows, maps_by_trying
from tests.reference import random_orders, ring, shuffled

FOUR_POINTS = reference.all_orders(4)
EXAMPLE = ((4, ((0, 1), (0, 2))), (4, ((0, 2), (1, 2))))


class TestQuotient(unittest.TestCase):
    def test_examples(self):
        self.assertIsNone(quotient((3, ((0, 1), (0, 2), (1, 2))), (0, 1, 0)))
        self.assertEqual(quotient((3, ((0, 1), (0, 2), (1, 2))), (5, 5, 0)), (2, ((0, 1),)))

    def test_equal_labels(self):
        for order in SMALL_ORDERS[1:] + [CROWN, chain(64), ring(32)]:
            for label in (0, 7, -1, HUGE, -HUGE):
                self.assertEqual(quotient(order, (label,) * order[0]), POINT)

    def test_unlike_labels(self):
        for order in SMALL_ORDERS + [CROWN, chain(64), ring(32)]:
            n = order[0]
            for labels in (range(n), range(n, 0, -1), range(-n, 0), [HUGE - 7 * x for x in range(n)]):
                self.assertEqual(quotient(order, tuple(labels)), order)

    def test_the_empty_order(self):
        self.assertEqual(quotient(EMPTY, ()), EMPTY)
        self.assertEqual(quotient(order=EMPTY, labels=()), EMPTY)

    def test_numbering_by_first_occurrence(self):
        self.assertEqual(quotient(VEE, (9, 3, 3)), (2, ((0, 1),)))
        self.assertEqual(quotient(VEE, (3, 9, 3)), (2, ((0, 1),)))
        self.assertEqual(quotient((3, ((1, 0),)), (5, -5, 5)), (2, ((1, 0),)))
        self.assertEqual(quotient((4, ((3, 0), (3, 1))), (HUGE, -HUGE, 0, 0)), (3, ((2, 0), (2, 1))))
        self.assertEqual(quotient((4, ((0, 3), (1, 2))), (2, 1, 2, 0)), (3, ((0, 2), (1, 0), (1, 2))))

    def test_labels_that_bring_classes_below_each_other(self):
        # Directly: one pair up, and one back.
        self.assertIsNone(quotient((4, ((0, 1), (2, 3))), (0, 1, 1, 0)))
        self.assertIsNone(quotient(chain(64), (0,) + (1,) * 62 + (0,)))
        # Only by way of others: a ring of three classes.
        order = (6, ((0, 1), (2, 3), (4, 5)))
        self.assertIsNone(quotient(order, (0, 1, 1, 2, 2, 0)))
        self.assertIsNone(quotient(order, (HUGE, 1, 1, -HUGE, -HUGE, HUGE)))
        self.assertEqual(quotient(order, (0, 1, 1, 2, 2, 3)), chain(4))

    def test_pairs_that_follow_of_others(self):
        self.assertEqual(quotient((4, ((0, 1), (2, 3))), (0, 1, 1, 2)), chain(3))
        self.assertEqual(quotient((4, ((2, 3), (1, 0))), (0, 1, 2, 1)), (3, ((1, 0), (2, 0), (2, 1))))

    def test_all_labels_of_small_orders(self):
        for order in SMALL_ORDERS + FOUR_POINTS[::5]:
            n = order[0]
            for labels in itertools.product(range(n), repeat=n):
                found = quotient(order, labels)
                self.assertEqual(found, reference.quotient(order, labels))
                self.assertTrue(is_plain(found))

    def test_random_orders(self):
        source = random.Random(71)
        for order in random_orders(60, 12, 72):
            for many in (2, 4, 8):
                labels = tuple(source.choice((-HUGE, -1, 0, 1, 2, 30, HUGE - 1, HUGE)[:many]) for _ in range(order[0]))
                found = quotient(order, labels)
                self.assertEqual(found, reference.quotient(order, labels))
                if found is not None:
                    self.assertIsNone(check_order(found))


class TestTestCounts(unittest.TestCase):
    def test_example(self):
        self.assertEqual(counts_of((3, ((0, 1), (0, 2))), *EXAMPLE), (12, 10))

    def test_some(self):
        self.assertEqual(counts_of(POINT, CROWN, antichain(16)), (4, 16))
        self.assertEqual(counts_of(EMPTY, CROWN, EMPTY), (1, 1))
        self.assertEqual(counts_of(POINT, EMPTY, VEE), (0, 3))
        self.assertEqual(counts_of(test=chain(2), first=chain(3), second=VEE), (6, 5))
        self.assertEqual(counts_of(antichain(8), antichain(16), antichain(2)), (16 ** 8, 256))

    def test_against_all_rows(self):
        for test, first, second in zip(random_orders(40, 4, 73), random_orders(40, 5, 74), random_orders(40, 5, 75)):
            expected = (len(maps_by_trying(test, first)), len(maps_by_trying(test, second)))
            self.assertEqual(counts_of(test, first, second), expected)
            self.assertTrue(is_plain(counts_of(test, first, second)))

    def test_bounds(self):
        self.assertEqual(counts_of(chain(8), chain(16), POINT), (count_maps(chain(8), chain(16)), 1))
        for test, first, second in (
            (chain(9), POINT, POINT),
            (POINT, chain(17), POINT),
            (POINT, POINT, chain(17)),
            (EMPTY, EMPTY, antichain(17)),
            (antichain(9), EMPTY, EMPTY),
            (antichain(64), antichain(64), antichain(64)),
        ):
            with self.assertRaises(TooLarge):
                counts_of(test, first, second)

    def test_equal_for_alike_orders(self):
        source = random.Random(76)
        for order in random_orders(10, 6, 77):
            for test in SMALL_ORDERS:
                one, other = counts_of(test, order, shuffled(order, source))
                self.assertEqual(one, other)


def expected_test(first, second):
    """The least of all quotients of both with unlike counts."""
    every = {reference.quotient(order, labels) for order in (first, second) for labels in label_rows(order[0])}
    every.discard(None)
    for test in sorted(every):
        if len(maps_by_trying(test, first)) != len(maps_by_trying(test, second)):
            return test
    return None


class TestFindTest(unittest.TestCase):
    def test_example(self):
        test = find_test(*EXAMPLE)
        self.assertEqual(test, (3, ((0, 1), (0, 2))))
        self.assertEqual(counts_of(test, *EXAMPLE), (12, 10))
        self.assertEqual(find_test(first=EXAMPLE[1], second=EXAMPLE[0]), test)

    def test_small_orders(self):
        for first in SMALL_ORDERS:
            for second in SMALL_ORDERS:
                self.assertEqual(find_test(first, second), expected_test(first, second))
        for first in FOUR_POINTS[::23]:
            for second in FOUR_POINTS[::11]:
                self.assertEqual(find_test(first, second), expected_test(first, second))

    def test_random_orders_of_five_points(self):
        orders = random_orders(12, 5, 78, smallest=5)
        for first, second in itertools.combinations(orders, 2):
            if len(first[1]) == len(second[1]):
                self.assertEqual(find_test(first, second), expected_test(first, second))

    def test_none_just_for_alike_orders(self):
        source = random.Random(79)
        for order in random_orders(30, 8, 80) + [ring(4), antichain(8), chain(8), EMPTY]:
            self.assertIsNone(find_test(order, shuffled(order, source)))
        orders = random_orders(30, 5, 81, smallest=5)
        for first, second in itertools.combinations(orders, 2):
            self.assertIs(find_test(first, second) is None, are_alike(first, second))

    def test_unlike_numbers_of_points(self):
        for first, second in itertools.permutations((EMPTY, POINT, CROWN, chain(7), antichain(8)), 2):
            self.assertEqual(find_test(first, second), (1, ()))

    def test_eight_points(self):
        # A crown more or less is seen only by maps from a crown, or from an order with one.
        test = find_test(ring(4), beside(CROWN, CROWN))
        self.assertEqual(test[0], 4)
        one, other = counts_of(test, ring(4), beside(CROWN, CROWN))
        self.assertNotEqual(one, other)
        self.assertTrue(are_alike(test, CROWN))
        self.assertEqual(find_test(chain(8), antichain(8)), (2, ((0, 1),)))

    def test_the_test_may_be_as_large_as_the_orders(self):
        self.assertEqual(find_test(VEE, WEDGE), (3, ((0, 1), (0, 2))))
        self.assertEqual(counts_of(VEE, VEE, WEDGE), (11, 9))

    def test_too_large(self):
        for first, second in (
            (chain(9), EMPTY),
            (EMPTY, chain(9)),
            (chain(9), chain(9)),
            (antichain(9), chain(9)),
            (POINT, antichain(64)),
            (antichain(64), antichain(64)),
            (chain(8), chain(9)),
        ):
            with self.assertRaises(TooLarge):
                find_test(first, second)
