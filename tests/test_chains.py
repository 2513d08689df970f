"""[37], [38], [40]: chains, and the numbers that are counted by them."""

import itertools
import math
import random
import unittest
from fractions import Fraction

from strikecore.building import beside, induced, on_top, opposite, product
from strikecore.chains import chain_counts, chains, euler, homology, moebius
from strikecore.cores import core, is_contractible
from strikecore.errors import TooLarge
from strikecore.orders import check_order
from strikecore.strikes import points_left
from strikecore.weak import weak_left, weak_row
from tests import reference
from tests.reference import CROWN, EMPTY, POINT, SMALL_ORDERS, VEE, WEDGE
from tests.reference import antichain, chain, is_plain, random_orders, random_row, random_weak_row, ring, shuffled
from tests.test_weak import POINT_BELOW_W, W

RANDOM_ORDERS = random_orders(40, 7, 161)
ORDERS = SMALL_ORDERS + [CROWN, ring(3), reference.all_orders(4)[50]] + RANDOM_ORDERS


def sphere(k):
    """Crowns on top of one another: two points on each of k + 1 levels."""
    order = antichain(2)
    for _ in range(k):
        order = on_top(order, antichain(2))
    return order


def counted(rows):
    """The numbers of chains of each length."""
    longest = max([len(row) for row in rows], default=0)
    return tuple(sum(len(row) == size for row in rows) for size in range(1, longest + 1))


class TestChains(unittest.TestCase):
    def test_some(self):
        self.assertEqual(chains(EMPTY), ())
        self.assertEqual(chains(POINT), ((0,),))
        self.assertEqual(chains(order=VEE), ((0,), (1,), (2,), (0, 1), (0, 2)))
        expected = ((0,), (1,), (2,), (1, 0), (2, 0), (2, 1), (2, 1, 0))
        self.assertEqual(chains((3, ((1, 0), (2, 0), (2, 1)))), expected)
        self.assertEqual(len(chains(chain(10))), 2 ** 10 - 1)
        self.assertEqual(chains(antichain(10)), tuple((x,) for x in range(10)))

    def test_against_all_rows(self):
        for order in [order for order in ORDERS if order[0] < 7]:
            found = chains(order)
            self.assertEqual(found, reference.chains(order))
            self.assertTrue(is_plain(found))

    def test_ten_points(self):
        for order in random_orders(10, 10, 162, smallest=10):
            found = chains(order)
            self.assertEqual(list(found), sorted(set(found), key=lambda row: (len(row), row)))
            self.assertTrue(all((row[i], row[i + 1]) in order[1] for row in found for i in range(len(row) - 1)))
            self.assertEqual(counted(found), chain_counts(order))

    def test_too_large(self):
        for order in (chain(11), antichain(11), chain(64), antichain(64)):
            with self.assertRaises(TooLarge):
                chains(order)


class TestChainCounts(unittest.TestCase):
    def test_some(self):
        self.assertEqual(chain_counts(EMPTY), ())
        self.assertEqual(chain_counts(POINT), (1,))
        self.assertEqual(chain_counts(order=CROWN), (4, 4))
        self.assertEqual(chain_counts(W), (9, 22, 14))
        self.assertEqual(chain_counts(antichain(64)), (64,))

    def test_against_all_rows(self):
        for order in [order for order in ORDERS if order[0] < 7]:
            self.assertEqual(chain_counts(order), counted(reference.chains(order)))
            self.assertTrue(is_plain(chain_counts(order)))

    def test_64_points_with_very_many_chains(self):
        self.assertEqual(chain_counts(chain(64)), tuple(math.comb(64, k + 1) for k in range(64)))
        self.assertEqual(chain_counts(shuffled(chain(64), random.Random(163))), chain_counts(chain(64)))
        self.assertEqual(chain_counts(sphere(31)), tuple(math.comb(32, k + 1) * 2 ** (k + 1) for k in range(32)))
        tall = on_top(on_top(antichain(20), antichain(20)), antichain(24))
        self.assertEqual(chain_counts(tall), (64, 400 + 2 * 480, 9600))


class TestEuler(unittest.TestCase):
    def test_some(self):
        self.assertEqual(euler(EMPTY), 0)
        self.assertEqual(euler(POINT), 1)
        self.assertEqual(euler(order=CROWN), 0)
        self.assertEqual(euler(W), 1)
        self.assertEqual(euler(antichain(64)), 64)
        self.assertEqual(euler(chain(64)), 1)
        self.assertEqual(euler(ring(32)), 0)
        self.assertEqual(euler(on_top(antichain(3), antichain(4))), 7 - 12)
        self.assertEqual([euler(sphere(k)) for k in range(32)], [2, 0] * 16)

    def test_against_a_count_of_the_chains(self):
        for order in [order for order in ORDERS if order[0] < 7]:
            rows = reference.chains(order)
            self.assertEqual(euler(order), sum((-1) ** (len(row) - 1) for row in rows))

    def test_the_sum_of_moebius_over_all_points(self):
        for order in ORDERS + random_orders(4, 20, 164):
            points = range(order[0])
            self.assertEqual(euler(order), sum(moebius(order, x, y) for x in points for y in points))

    def test_beside_and_product(self):
        for first, second in zip(RANDOM_ORDERS, RANDOM_ORDERS[1:]):
            self.assertEqual(euler(beside(first, second)), euler(first) + euler(second))
            self.assertEqual(euler(product(first, second)), euler(first) * euler(second))

    def test_orders_of_one_shape(self):
        source = random.Random(165)
        for order in ORDERS:
            self.assertEqual(euler(order), euler(core(order)))
            self.assertEqual(euler(order), euler(induced(order, points_left(order, random_row(order, source, 2)))))
            if is_contractible(order):
                self.assertEqual(euler(order), 1)


def signed_chains(order, x, y):
    """The chains from x to y of odd and even length, which make up moebius."""
    rows = [row for row in reference.chains(order) if row[0] == x and row[-1] == y]
    return sum((-1) ** (len(row) - 1) for row in rows)


class TestMoebius(unittest.TestCase):
    def test_some(self):
        self.assertEqual(moebius(POINT, 0, 0), 1)
        self.assertEqual(moebius(chain(3), 0, 1), -1)
        self.assertEqual(moebius(chain(3), 0, 2), 0)
        self.assertEqual(moebius(order=chain(3), x=2, y=0), 0)
        self.assertEqual(moebius(product(chain(2), chain(2)), 0, 3), 1)
        self.assertEqual(moebius(on_top(on_top(POINT, antichain(5)), POINT), 0, 6), 4)

    def test_all_pairs_against_a_count_of_the_chains(self):
        for order in [order for order in ORDERS if order[0] < 7]:
            for x, y in itertools.product(range(order[0]), repeat=2):
                self.assertEqual(moebius(order, x, y), signed_chains(order, x, y))

    def test_points_that_are_equal_or_not_comparable(self):
        for order in ORDERS + [chain(64), antichain(64)]:
            for x, y in itertools.product(range(0, order[0], 3), range(order[0])):
                if x == y:
                    self.assertEqual(moebius(order, x, y), 1)
                elif (x, y) not in order[1]:
                    self.assertEqual(moebius(order, x, y), 0)

    def test_the_sum_over_an_interval_is_0(self):
        for order in random_orders(6, 16, 166):
            for x, y in order[1]:
                between = [z for z in range(order[0]) if z == x or (x, z) in order[1]]
                total = sum(moebius(order, x, z) for z in between if z == y or (z, y) in order[1])
                self.assertEqual(total, 0)

    def test_64_points(self):
        for order, names in ((chain(64), range(64)), (opposite(chain(64)), range(63, -1, -1))):
            values = [moebius(order, names[0], y) for y in names]
            self.assertEqual(values, [1, -1] + [0] * 62)
        source = random.Random(167)
        order = shuffled(chain(64), source)
        bottom = [x for x in range(64) if not any(high == x for _, high in order[1])][0]
        self.assertEqual(sorted(moebius(order, bottom, y) for y in range(64)), [-1] + [0] * 62 + [1])
        cube = product(product(product(chain(2), chain(2)), product(chain(2), chain(2))), product(chain(2), chain(2)))
        self.assertEqual([moebius(cube, 0, y) for y in range(64)], [(-1) ** bin(y).count("1") for y in range(64)])
        self.assertEqual(moebius(sphere(31), 0, 63), euler(sphere(29)) - 1)

    def test_a_point_below_all_and_a_point_above_all(self):
        for order in ORDERS + [antichain(62), ring(31), sphere(30), W] + random_orders(5, 62, 168):
            bounded = on_top(on_top(POINT, order), POINT)
            self.assertEqual(moebius(bounded, 0, order[0] + 1), euler(order) - 1)


def rank(rows):
    """The rank of a matrix of fractions."""
    rows = [[Fraction(entry) for entry in row] for row in rows]
    done = 0
    for column in range(len(rows[0]) if rows else 0):
        pivot = next((k for k in range(done, len(rows)) if rows[k][column]), None)
        if pivot is not None:
            rows[done], rows[pivot] = rows[pivot], rows[done]
            for k in range(done + 1, len(rows)):
                factor = rows[k][column] / rows[done][column]
                rows[k] = [entry - factor * top for entry, top in zip(rows[k], rows[done])]
            done += 1
    return done


def expected_homology(order):
    """[40], word by word, with all chains of the order."""
    rows = [row for row in chains(order)]
    levels = [[row for row in rows if len(row) == size] for size in range(1, len(chain_counts(order)) + 1)]
    ranks = [0]
    for low, high in zip(levels, levels[1:]):
        places = {row: k for k, row in enumerate(low)}
        matrix = []
        for row in high:
            line = [0] * len(low)
            for i in range(len(row)):
                line[places[row[:i] + row[i + 1:]]] += (-1) ** i
            matrix.append(line)
        ranks.append(rank(matrix))
    ranks.append(0)
    numbers = [len(levels[k]) - ranks[k] - ranks[k + 1] for k in range(len(levels))]
    while numbers and numbers[-1] == 0:
        numbers.pop()
    return tuple(numbers)


class TestHomology(unittest.TestCase):
    def test_some(self):
        self.assertEqual(homology(EMPTY), ())
        self.assertEqual(homology(POINT), (1,))
        self.assertEqual(homology(order=CROWN), (1, 1))
        self.assertEqual(homology(W), (1,))
        self.assertEqual(homology(antichain(10)), (10,))
        self.assertEqual(homology(ring(3)), (1, 1))
        self.assertEqual(homology(ring(5)), (1, 1))
        self.assertEqual(homology(on_top(antichain(3), antichain(4))), (1, 6))

    def test_spheres(self):
        self.assertEqual([homology(sphere(k)) for k in range(5)], [(2,), (1, 1), (1, 0, 1), (1, 0, 0, 1), (1, 0, 0, 0, 1)])

    def test_zeros_stand_ahead_of_others_but_not_at_the_end(self):
        self.assertEqual(homology(beside(sphere(3), POINT)), (2, 0, 0, 1))
        self.assertEqual(homology(beside(CROWN, sphere(2))), (2, 1, 1))
        self.assertEqual(homology(beside(CROWN, chain(6))), (2, 1))
        self.assertEqual(homology(on_top(on_top(antichain(3), antichain(3)), antichain(3))), (1, 0, 8))

    def test_zeros_at_the_end_are_not_told(self):
        # No point can be struck, there are chains of length 2, and they enclose nothing.
        links = ((0, 2), (0, 4), (1, 2), (1, 4), (2, 5), (2, 6), (3, 5), (3, 6), (0, 5), (0, 6), (1, 5), (1, 6))
        order = (7, tuple(sorted(links)))
        self.assertIsNone(check_order(order))
        self.assertEqual(weak_row(order), ())
        self.assertEqual(chain_counts(order), (7, 12, 4))
        self.assertEqual(homology(order), (1, 2))
        self.assertEqual(homology(beside(order, sphere(0))), (3, 2))

    def test_contractible_orders(self):
        for order in [VEE, WEDGE, chain(64), product(VEE, chain(21)), on_top(antichain(63), POINT), POINT_BELOW_W]:
            self.assertEqual(homology(order), (1,))

    def test_orders_of_several_pieces(self):
        self.assertEqual(homology(beside(CROWN, CROWN)), (2, 2))
        self.assertEqual(homology(beside(beside(chain(20), W), VEE)), (3,))
        self.assertEqual(homology(beside(chain(30), product(CROWN, chain(8)))), (2, 1))

    def test_against_the_words(self):
        for order in ORDERS + [W, sphere(2), sphere(3), beside(CROWN, sphere(1))] + random_orders(10, 9, 169, smallest=8):
            found = homology(order)
            self.assertEqual(found, expected_homology(order))
            self.assertTrue(is_plain(found))

    def test_the_signed_sum_is_the_euler_number(self):
        for order in ORDERS + [sphere(k) for k in range(5)] + [W, ring(4), product(CROWN, chain(10))]:
            numbers = homology(order)
            self.assertEqual(sum(numbers[::2]) - sum(numbers[1::2]), euler(order))

    def test_what_rows_leave(self):
        source = random.Random(170)
        for order in ORDERS + [W]:
            for length in (1, 2, None):
                row = random_weak_row(order, source, length)
                self.assertEqual(homology(induced(order, weak_left(order, row))), homology(order))
            self.assertEqual(homology(core(order)), homology(order))
            self.assertEqual(homology(opposite(order)), homology(order))

    def test_too_large(self):
        # What weak_row leaves counts, not the order.
        for order in (antichain(11), antichain(64), ring(6), ring(32), sphere(5), sphere(31), beside(ring(5), chain(50))):
            self.assertGreater(len(weak_left(order, weak_row(order))), 10)
            with self.assertRaises(TooLarge):
                homology(order)
        small = [beside(sphere(3), W), beside(antichain(9), chain(55))]
        for order in small + [product(ring(5), chain(6)), on_top(ring(31), POINT)]:
            self.assertIsNone(check_order(order))
            self.assertGreater(order[0], 10)
            self.assertLessEqual(len(weak_left(order, weak_row(order))), 10)
            numbers = homology(order)
            self.assertEqual(sum(numbers[::2]) - sum(numbers[1::2]), euler(order))
