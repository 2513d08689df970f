"""[11] to [13]: rising maps, comparing, counting and listing them."""

import itertools
import random
import unittest

from strikecore.building import beside, product
from strikecore.errors import BadMap, TooLarge
from strikecore.maps import MapCount, MapList
from strikecore.maps import all_maps, are_neighbours, at_most, check_map, compose, count_maps, identity_map
from strikecore.orders import order_of
from tests import reference
from tests.reference import CROWN, EMPTY, HUGE, POINT, SMALL_ORDERS, STRANGE_VALUES, VEE, WEDGE
from tests.reference import antichain, chain, is_plain, is_rising, maps_by_trying

RANDOM_PAIRS = list(zip(reference.random_orders(60, 5, 11), reference.random_orders(60, 5, 12)))

# Pairs of orders with 20000 rising maps from one to the other, and with 20001.
MAPS_20000 = ((7, ((1, 5), (6, 5))), (5, ((0, 2), (1, 2), (1, 3), (3, 2), (4, 2))))
OTHER_20000 = (beside(antichain(3), chain(2)), (10, tuple((0, x) for x in range(1, 10)) + ((1, 2),)))
MAPS_20001 = (
    order_of(6, ((1, 0), (2, 1), (3, 0), (4, 0), (5, 1))),
    order_of(9, ((1, 8), (2, 1), (3, 0), (5, 3), (6, 4), (6, 5), (7, 3), (7, 4), (8, 5), (8, 7))),
)


def fault_of(first, second, row):
    try:
        result = check_map(first, second, row)
    except BadMap as error:
        return (error.pair,)
    assert result is None
    return ()


class TestCheckMap(unittest.TestCase):
    def test_all_rows_between_small_orders(self):
        for first in SMALL_ORDERS[::2]:
            for second in SMALL_ORDERS:
                for row in itertools.product(range(second[0]), repeat=first[0]):
                    falling = [(x, y) for x, y in first[1] if not reference.is_at_most(second, row[x], row[y])]
                    self.assertEqual(fault_of(first, second, row), (min(falling),) if falling else ())

    def test_the_least_pair(self):
        self.assertEqual(fault_of(chain(4), chain(4), (3, 2, 1, 0)), ((0, 1),))
        self.assertEqual(fault_of(chain(4), chain(4), (0, 2, 2, 1)), ((1, 3),))
        self.assertEqual(fault_of(chain(4), antichain(4), (2, 2, 2, 1)), ((0, 3),))
        self.assertEqual(fault_of(CROWN, chain(2), (0, 1, 1, 0)), ((1, 3),))
        self.assertEqual(fault_of((3, ((2, 0), (2, 1))), chain(2), (0, 0, 1)), ((2, 0),))

    def test_rows_are_not_only_antitone(self):
        self.assertEqual(fault_of(chain(2), CROWN, (0, 1)), ((0, 1),))
        self.assertEqual(fault_of(chain(2), CROWN, (2, 0)), ((0, 1),))
        self.assertEqual(fault_of(chain(2), CROWN, (0, 0)), ())

    def test_values_of_any_form(self):
        for value in STRANGE_VALUES:
            with self.subTest(value=value):
                self.assertEqual(fault_of(CROWN, CROWN, value), (None,))
                self.assertEqual(fault_of(EMPTY, CROWN, value), () if value == () else (None,))

    def test_rows_of_a_wrong_length(self):
        for row in ((), (0,), (0, 0, 0), (0, 0, 0, 0, 0)):
            self.assertEqual(fault_of(CROWN, CROWN, row), (None,))

    def test_entries(self):
        for entry in (None, "", "0", "down", (), (0,), -1, 4, 64, HUGE, -HUGE):
            for place in range(4):
                row = (0,) * place + (entry,) + (0,) * (3 - place)
                self.assertEqual(fault_of(CROWN, CROWN, row), (None,))
        # The form comes ahead of the pairs.
        self.assertEqual(fault_of(chain(3), chain(3), (2, 1, 3)), (None,))
        self.assertEqual(fault_of(chain(3), chain(3), (2, 1, -1)), (None,))

    def test_the_empty_order(self):
        self.assertEqual(fault_of(EMPTY, EMPTY, ()), ())
        self.assertEqual(fault_of(EMPTY, CROWN, ()), ())
        self.assertEqual(fault_of(EMPTY, CROWN, (0,)), (None,))
        self.assertEqual(fault_of(POINT, EMPTY, ()), (None,))
        self.assertEqual(fault_of(POINT, EMPTY, (0,)), (None,))

    def test_64_points(self):
        self.assertEqual(fault_of(chain(64), chain(64), tuple(range(64))), ())
        self.assertEqual(fault_of(chain(64), chain(64), tuple(range(63)) + (61,)), ((62, 63),))
        self.assertIsNone(check_map(first=chain(64), second=POINT, row=(0,) * 64))

    def test_the_pair_is_plain(self):
        self.assertTrue(is_plain(fault_of(chain(2), chain(2), (1, 0))))


class TestRows(unittest.TestCase):
    def test_identity_map(self):
        self.assertEqual(identity_map(EMPTY), ())
        self.assertEqual(identity_map(order=CROWN), (0, 1, 2, 3))
        self.assertEqual(identity_map(antichain(64)), tuple(range(64)))

    def test_compose(self):
        self.assertEqual(compose((), (0, 1)), ())
        self.assertEqual(compose((), ()), ())
        self.assertEqual(compose((1, 1, 2), (5, 6, 7)), (6, 6, 7))
        self.assertEqual(compose(row=(2, 0), after=(3, 1, 2)), (2, 3))

    def test_compose_of_rising_maps_rises(self):
        for row in all_maps(VEE, CROWN):
            for after in all_maps(CROWN, WEDGE):
                both = compose(row, after)
                self.assertEqual(both, tuple(after[row[x]] for x in range(3)))
                self.assertIsNone(check_map(VEE, WEDGE, both))

    def test_identity_and_compose(self):
        for row in all_maps(CROWN, VEE):
            self.assertEqual(compose(identity_map(CROWN), row), row)
            self.assertEqual(compose(row, identity_map(VEE)), row)

    def test_at_most_and_are_neighbours(self):
        for first, second in RANDOM_PAIRS[::4]:
            rows = maps_by_trying(first, second)
            source = random.Random(13)
            rows = source.sample(rows, min(len(rows), 15))
            for row in rows:
                self.assertIs(at_most(second, row, row), True)
                self.assertIs(are_neighbours(second, row, row), True)
                for other in rows:
                    up = all(reference.is_at_most(second, x, y) for x, y in zip(row, other))
                    down = all(reference.is_at_most(second, y, x) for x, y in zip(row, other))
                    self.assertIs(at_most(second, row, other), up)
                    self.assertIs(at_most(second=second, low=other, high=row), down)
                    self.assertIs(are_neighbours(second, row, other), up or down)
                    self.assertIs(are_neighbours(second=second, row=other, other=row), up or down)

    def test_maps_that_are_above_in_one_place_and_below_in_another(self):
        self.assertIs(at_most(chain(2), (0, 1), (1, 0)), False)
        self.assertIs(are_neighbours(chain(2), (0, 1), (1, 0)), False)
        self.assertIs(are_neighbours(chain(2), (0, 1), (1, 1)), True)
        self.assertIs(are_neighbours(chain(2), (1, 1), (0, 1)), True)
        self.assertIs(at_most(chain(2), (1, 1), (0, 1)), False)
        self.assertIs(at_most(antichain(2), (0,), (1,)), False)

    def test_maps_of_no_points(self):
        self.assertIs(at_most(EMPTY, (), ()), True)
        self.assertIs(at_most(CROWN, (), ()), True)
        self.assertIs(are_neighbours(EMPTY, (), ()), True)


class TestCountAndAll(unittest.TestCase):
    def test_against_trying_all_rows(self):
        pairs = [(first, second) for first in SMALL_ORDERS for second in SMALL_ORDERS]
        for first, second in pairs + RANDOM_PAIRS + [(CROWN, CROWN)]:
            expected = maps_by_trying(first, second)
            self.assertEqual(all_maps(first, second), expected)
            self.assertEqual(count_maps(first, second), len(expected))

    def test_all_orders_of_four_points_to_some(self):
        for first in reference.all_orders(4):
            for second in (chain(2), CROWN, (3, ((0, 2),))):
                expected = maps_by_trying(first, second)
                self.assertEqual(all_maps(first, second), expected)
                self.assertEqual(count_maps(first, second), len(expected))

    def test_rows_are_plain_and_ascend(self):
        for first, second in RANDOM_PAIRS:
            rows = all_maps(first, second)
            self.assertTrue(is_plain(rows))
            self.assertTrue(all(rows[k] < rows[k + 1] for k in range(len(rows) - 1)))
            self.assertTrue(all(is_rising(first, second, row) for row in rows))

    def test_the_empty_order(self):
        for order in (EMPTY, POINT, CROWN, antichain(16)):
            self.assertEqual(all_maps(EMPTY, order), ((),))
            self.assertEqual(count_maps(EMPTY, order), 1)
        for order in (POINT, CROWN, antichain(8)):
            self.assertEqual(all_maps(order, EMPTY), ())
            self.assertEqual(count_maps(order, EMPTY), 0)

    def test_as_many_maps_as_there_can_be(self):
        self.assertEqual(count_maps(antichain(8), antichain(16)), 16 ** 8)
        self.assertEqual(count_maps(first=antichain(8), second=chain(16)), 16 ** 8)
        # Chains to chains: as many as there are choices with repetitions.
        self.assertEqual(count_maps(chain(8), chain(16)), 490314)
        self.assertEqual(count_maps(beside(chain(4), chain(4)), chain(16)), 3876 ** 2)
        self.assertEqual(count_maps(chain(8), antichain(16)), 16)

    def test_a_large_count_over_the_values_of_two_middle_points(self):
        # Points 0 and 1 are below 2 and 3, and these below 4 and 5.
        first = (6, tuple((x, y) for x in range(6) for y in range(6) if x // 2 < y // 2))
        expected = sum((min(a, b) + 1) ** 2 * (16 - max(a, b)) ** 2 for a in range(16) for b in range(16))
        self.assertEqual(count_maps(first, chain(16)), expected)

    def test_counts_against_lists_of_larger_orders(self):
        firsts = reference.random_orders(40, 8, 14, smallest=6)
        seconds = reference.random_orders(40, 8, 15, smallest=2)
        compared = 0
        for first, second in zip(firsts, seconds):
            try:
                rows = all_maps(first, second)
            except TooLarge:
                self.assertGreater(count_maps(first, second), 20000)
            else:
                compared += 1
                self.assertEqual(count_maps(first, second), len(rows))
        self.assertGreater(compared, 10)

    def test_counts_of_products_and_sums(self):
        for first in (VEE, CROWN, chain(3)):
            for second in (VEE, CROWN, WEDGE):
                ways = count_maps(first, second)
                self.assertEqual(count_maps(beside(first, first), second), ways ** 2)
                self.assertEqual(count_maps(first, product(second, chain(2))), ways * count_maps(first, chain(2)))

    def test_few_maps_among_many_rows(self):
        # Points 0 to 8 have nothing in common but the point above them.
        first = (10, tuple((x, 9) for x in range(9)))
        self.assertEqual(all_maps(first, antichain(16)), tuple((value,) * 10 for value in range(16)))
        ring = reference.ring(5)
        self.assertEqual(all_maps(ring, antichain(16)), tuple((value,) * 10 for value in range(16)))
        self.assertEqual(count_maps(reference.ring(4), antichain(16)), 16)


class TestLimitedValues(unittest.TestCase):
    """A crown to a ring of eight, each point with two opposite values: once round leads to the other one."""

    SECOND = order_of(8, ((0, 4), (1, 5), (2, 4), (3, 5), (0, 6), (1, 7), (2, 7), (3, 6)))
    TURNED_BACK = order_of(8, ((0, 4), (1, 5), (2, 4), (3, 5), (0, 6), (1, 7), (2, 6), (3, 7)))
    DOMAINS = [3, 12, 48, 192]

    def test_no_map_although_each_value_has_a_neighbour(self):
        finder = MapList(CROWN, self.SECOND)
        finder.search(self.DOMAINS)
        self.assertEqual(finder.found, [])
        self.assertEqual(MapCount(CROWN, self.SECOND).count_all(list(enumerate(self.DOMAINS))), 0)

    def test_two_maps_if_the_ring_closes(self):
        finder = MapList(CROWN, self.TURNED_BACK)
        finder.search(self.DOMAINS)
        self.assertEqual(finder.found, [(0, 2, 4, 6), (1, 3, 5, 7)])
        self.assertEqual(MapCount(CROWN, self.TURNED_BACK).count_all(list(enumerate(self.DOMAINS))), 2)

    def test_the_same_by_further_points(self):
        first = order_of(8, ((0, 2), (0, 3), (1, 2), (1, 3), (0, 4), (1, 5), (6, 2), (7, 3)))
        ends = ((0, 8), (1, 8), (2, 9), (3, 9), (10, 4), (10, 5), (11, 6), (11, 7))
        second = order_of(12, self.SECOND[1] + ends)
        self.assertEqual(len(all_maps(first, second)), count_maps(first, second))


class TestSizes(unittest.TestCase):
    def test_count_maps(self):
        self.assertEqual(count_maps(chain(8), POINT), 1)
        self.assertEqual(count_maps(POINT, antichain(16)), 16)
        for first, second in ((antichain(9), POINT), (POINT, antichain(17)), (antichain(9), EMPTY), (EMPTY, chain(17))):
            with self.assertRaises(TooLarge):
                count_maps(first, second)
        with self.assertRaises(TooLarge):
            count_maps(chain(64), chain(64))

    def test_all_maps(self):
        self.assertEqual(all_maps(chain(10), POINT), ((0,) * 10,))
        self.assertEqual(all_maps(POINT, antichain(16)), tuple((x,) for x in range(16)))
        for first, second in ((antichain(11), POINT), (POINT, antichain(17)), (antichain(11), EMPTY), (EMPTY, chain(17))):
            with self.assertRaises(TooLarge):
                all_maps(first, second)
        with self.assertRaises(TooLarge):
            all_maps(chain(64), chain(64))

    def test_20000_maps(self):
        for first, second in (MAPS_20000, OTHER_20000):
            self.assertEqual(count_maps(first, second), 20000)
            rows = all_maps(first, second)
            self.assertEqual(len(rows), 20000)
            self.assertEqual(list(rows), sorted(set(rows)))

    def test_somewhat_fewer(self):
        self.assertEqual(len(all_maps(first=antichain(9), second=chain(3))), 19683)
        self.assertEqual(all_maps(antichain(9), antichain(3)), tuple(itertools.product(range(3), repeat=9)))
        self.assertEqual(len(all_maps(antichain(4), antichain(11))), 11 ** 4)

    def test_more_than_20000_maps(self):
        self.assertEqual(count_maps(*MAPS_20001), 20001)
        too_many = [MAPS_20001, (antichain(4), antichain(12)), (antichain(10), chain(16)), (chain(10), chain(16))]
        for first, second in too_many:
            with self.assertRaises(TooLarge):
                all_maps(first, second)


class TestKinds(unittest.TestCase):
    def test_results_are_plain_and_equal_again(self):
        for first, second in RANDOM_PAIRS[:20]:
            self.assertIs(type(count_maps(first, second)), int)
            self.assertEqual(all_maps(first, second), all_maps(first, second))
            for row in all_maps(first, second)[:5]:
                self.assertTrue(is_plain(compose(identity_map(first), row)))
