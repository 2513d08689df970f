"""[22]: renamings of orders."""

import itertools
import random
import unittest

from strikecore.alike import is_renaming, renaming_of
from strikecore.errors import TooLarge
from tests import reference
from tests.reference import CROWN, EMPTY, HUGE, POINT, SMALL_ORDERS, STRANGE_VALUES, VEE, WEDGE
from tests.reference import antichain, beside, chain, is_plain, random_orders, renamed, renamings, ring, shuffled

FOUR_POINTS = reference.all_orders(4)
TWO_CROWNS = beside(CROWN, CROWN)
MANY_RENAMINGS = [antichain(8), ring(4), TWO_CROWNS, beside(chain(4), chain(4))]
MANY_RENAMINGS += [beside(beside(chain(2), chain(2)), beside(chain(2), chain(2))), beside(ring(3), chain(2))]


def least_renaming(first, second):
    return min(renamings(first, second), default=None)


class TestRenamingOf(unittest.TestCase):
    def test_some(self):
        self.assertEqual(renaming_of(VEE, (3, ((2, 0), (2, 1)))), (2, 0, 1))
        self.assertEqual(renaming_of((3, ((1, 0), (1, 2))), VEE), (1, 0, 2))
        self.assertEqual(renaming_of(first=chain(3), second=(3, ((0, 2), (1, 0), (1, 2)))), (1, 0, 2))
        self.assertIsNone(renaming_of(VEE, WEDGE))
        self.assertIsNone(renaming_of(CROWN, beside(VEE, POINT)))

    def test_the_empty_order_and_one_point(self):
        self.assertEqual(renaming_of(EMPTY, EMPTY), ())
        self.assertEqual(renaming_of(POINT, POINT), (0,))
        self.assertIsNone(renaming_of(EMPTY, POINT))
        self.assertIsNone(renaming_of(POINT, EMPTY))

    def test_all_small_orders(self):
        for first in SMALL_ORDERS:
            for second in SMALL_ORDERS:
                self.assertEqual(renaming_of(first, second), least_renaming(first, second))
        for first in FOUR_POINTS[::9]:
            for second in FOUR_POINTS[::2]:
                self.assertEqual(renaming_of(first, second), least_renaming(first, second))

    def test_random_orders_against_all_rows(self):
        source = random.Random(61)
        for order in random_orders(60, 6, 62, smallest=4):
            other = shuffled(order, source)
            self.assertEqual(renaming_of(order, other), least_renaming(order, other))
            self.assertTrue(is_plain(renaming_of(order, other)))
            for stranger in random_orders(2, order[0], source.random(), smallest=order[0]):
                self.assertEqual(renaming_of(order, stranger), least_renaming(order, stranger))

    def test_the_same_numbers_of_points_and_pairs(self):
        # Each point of these has the same numbers of points below and above it as one of the other.
        self.assertIsNone(renaming_of(ring(4), TWO_CROWNS))
        self.assertIsNone(renaming_of(TWO_CROWNS, ring(4)))
        unlike = 0
        for k in (3, 4, 5):
            orders = [order for order in FOUR_POINTS if len(order[1]) == k]
            for first, second in itertools.combinations(orders[::5], 2):
                found = renaming_of(first, second)
                self.assertEqual(found, least_renaming(first, second))
                unlike += found is None
        self.assertGreater(unlike, 20)

    def test_orders_with_many_renamings(self):
        source = random.Random(63)
        for order in MANY_RENAMINGS:
            self.assertEqual(renaming_of(order, order), tuple(range(8)))
            for _ in range(3):
                other = shuffled(order, source)
                found = renaming_of(order, other)
                self.assertEqual(found, least_renaming(order, other))
                self.assertEqual(renamed(order, found), other)

    def test_eight_points(self):
        source = random.Random(64)
        for order in random_orders(4, 8, 65, smallest=8):
            other = shuffled(order, source)
            self.assertEqual(renaming_of(order, other), least_renaming(order, other))

    def test_unlike_numbers_of_points_of_any_sizes(self):
        for first, second in itertools.permutations((EMPTY, POINT, chain(8), chain(9), antichain(40), chain(64)), 2):
            self.assertIsNone(renaming_of(first, second))

    def test_too_large(self):
        for first, second in (
            (chain(9), chain(9)),
            (chain(9), antichain(9)),
            (antichain(9), antichain(9)),
            (ring(5), ring(5)),
            (chain(64), chain(64)),
            (chain(64), antichain(64)),
        ):
            with self.assertRaises(TooLarge):
                renaming_of(first, second)


class TestIsRenaming(unittest.TestCase):
    def test_all_rows_of_small_orders(self):
        orders = SMALL_ORDERS + [CROWN, antichain(4), chain(4), FOUR_POINTS[40], FOUR_POINTS[120]]
        for first in orders[::2]:
            for second in orders:
                good = renamings(first, second)
                for row in itertools.product(range(second[0]), repeat=first[0]):
                    self.assertIs(is_renaming(first, second, row), row in good, (first, second, row))

    def test_both_ways_are_asked(self):
        # Pairs kept, but others added.
        self.assertIs(is_renaming(antichain(2), chain(2), (0, 1)), False)
        self.assertIs(is_renaming(chain(2), antichain(2), (0, 1)), False)
        self.assertIs(is_renaming(chain(2), chain(2), (1, 0)), False)
        self.assertIs(is_renaming(beside(VEE, POINT), CROWN, (0, 2, 3, 1)), False)

    def test_orders_of_64_points(self):
        source = random.Random(66)
        for order in (chain(64), antichain(64), ring(32), reference.random_order(64, 0.05, source)):
            names = list(range(64))
            source.shuffle(names)
            other = renamed(order, names)
            self.assertIs(is_renaming(order, other, tuple(names)), True)
            self.assertIs(is_renaming(first=other, second=order, value=tuple(names.index(x) for x in range(64))), True)
            for place in (0, 20, 63):
                wrong = list(names)
                wrong[place] = names[place - 1]
                self.assertIs(is_renaming(order, other, tuple(wrong)), False)
                wrong[place - 1] = names[place]
                kept = renamed(order, wrong) == other
                self.assertIs(is_renaming(order, other, tuple(wrong)), kept)

    def test_rows_with_one_place_wrong(self):
        for order in (CROWN, VEE, chain(3), antichain(3), ring(3)):
            row = tuple(range(order[0]))
            self.assertIs(is_renaming(order, order, row), True)
            for place in range(order[0]):
                for entry in (None, "", "0", (), (0,), -1, order[0], 64, HUGE, -HUGE, row[place - 1]):
                    wrong = row[:place] + (entry,) + row[place + 1:]
                    self.assertIs(is_renaming(order, order, wrong), False, wrong)

    def test_rows_of_a_wrong_length(self):
        for row in ((), (0,), (0, 1, 2), (0, 1, 2, 3, 4), (0, 1, 2, 3, 3), (0, 1, 2, 3, 0)):
            self.assertIs(is_renaming(CROWN, CROWN, row), False)

    def test_the_empty_order(self):
        self.assertIs(is_renaming(EMPTY, EMPTY, ()), True)
        self.assertIs(is_renaming(EMPTY, EMPTY, (0,)), False)
        self.assertIs(is_renaming(EMPTY, POINT, ()), False)
        self.assertIs(is_renaming(POINT, EMPTY, ()), False)
        self.assertIs(is_renaming(POINT, EMPTY, (0,)), False)
        self.assertIs(is_renaming(POINT, POINT, (0,)), True)

    def test_unlike_numbers_of_points(self):
        self.assertIs(is_renaming(antichain(2), antichain(3), (0, 1)), False)
        self.assertIs(is_renaming(antichain(3), antichain(2), (0, 1, 1)), False)
        self.assertIs(is_renaming(antichain(64), antichain(63), tuple(range(64))), False)

    def test_values_of_any_form(self):
        for value in STRANGE_VALUES:
            self.assertIs(is_renaming(CROWN, CROWN, value), False)
            self.assertIs(is_renaming(POINT, POINT, value), value == (0,))
            self.assertIs(is_renaming(EMPTY, EMPTY, value), value == ())
            self.assertIs(is_renaming(VEE, VEE, (0, 1, value)), value == 2)

    def test_answers_of_renaming_of(self):
        source = random.Random(67)
        for order in SMALL_ORDERS + MANY_RENAMINGS:
            other = shuffled(order, source)
            self.assertIs(is_renaming(order, other, renaming_of(order, other)), True)
