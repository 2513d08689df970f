"""[53] to [57]: orders and maps that come in whole lots."""

import itertools
import random
import unittest

from strikecore.building import beside, induced, on_top, opposite, product
from strikecore.chains import euler, homology
from strikecore.cores import core
from strikecore.errors import TooLarge
from strikecore.families import closures, crown, interiors, map_order, sphere, symmetries, turns
from strikecore.fixed import lefschetz
from strikecore.led import led
from strikecore.maps import all_maps, at_most, check_map, compose, identity_map
from strikecore.orders import check_order, pieces
from strikecore.shapes import check_shape, same_shape
from strikecore.strikes import is_core
from tests import reference
from tests.reference import CROWN, EMPTY, HUGE, POINT, SMALL_ORDERS, VEE, WEDGE
from tests.reference import antichain, chain, is_at_most, is_plain, random_orders, renamings, ring, shuffled
from tests.test_weak import W

ORDERS = SMALL_ORDERS + [CROWN, chain(5), ring(3), on_top(POINT, CROWN), W] + random_orders(20, 6, 231, smallest=4)


class TestMapOrder(unittest.TestCase):
    def check(self, first, second):
        rows = all_maps(first, second)
        found = map_order(first, second)
        expected = [
            (f, g)
            for f, g in itertools.product(range(len(rows)), repeat=2)
            if f != g and at_most(second, rows[f], rows[g])
        ]
        self.assertEqual(found, (len(rows), tuple(expected)))
        self.assertIsNone(check_order(found))
        self.assertTrue(is_plain(found))

    def test_some(self):
        self.assertEqual(map_order(POINT, VEE), VEE)
        self.assertEqual(map_order(first=chain(2), second=chain(2)), chain(3))
        self.assertEqual(map_order(antichain(2), chain(2)), product(chain(2), chain(2)))
        self.assertEqual(map_order(chain(2), antichain(3)), antichain(3))

    def test_empty_orders(self):
        for order in (EMPTY, POINT, VEE, antichain(16), chain(10)):
            self.assertEqual(map_order(EMPTY, order), POINT)
        for order in (POINT, VEE, antichain(10), chain(10)):
            self.assertEqual(map_order(order, EMPTY), EMPTY)

    def test_pair_by_pair(self):
        many = 0
        for first, second in itertools.product(SMALL_ORDERS + [CROWN, chain(4), antichain(5)], repeat=2):
            if len(all_maps(first, second)) <= 64:
                self.check(first, second)
                many += 1
        self.assertGreater(many, 300)

    def test_64_maps_and_more(self):
        for first, second in (
            (antichain(2), antichain(8)),
            (antichain(3), antichain(4)),
            (antichain(3), CROWN),
            (antichain(6), antichain(2)),
            (antichain(6), chain(2)),
            (antichain(3), on_top(antichain(2), antichain(2))),
        ):
            self.assertEqual(len(all_maps(first, second)), 64)
            self.check(first, second)
        for first, second, many in (
            (chain(2), chain(10), 55),
            (chain(10), chain(2), 11),
            (chain(2), chain(11), 66),
            (beside(antichain(4), chain(4)), chain(2), 80),
            (POINT, antichain(16), 16),
            (antichain(2), chain(9), 81),
            (antichain(10), chain(4), 4 ** 10),
            (antichain(10), antichain(16), 16 ** 10),
        ):
            if many <= 64:
                self.assertEqual(map_order(first, second)[0], many)
                self.check(first, second)
            else:
                with self.assertRaises(TooLarge):
                    map_order(first, second)
        # A chain of two points has n * (n + 1) // 2 maps to one of n points.
        exact = beside(beside(chain(9), chain(5)), chain(2))
        self.assertEqual(len(all_maps(chain(2), exact)), 45 + 15 + 3)
        self.check(chain(2), exact)
        one_more = beside(chain(10), chain(4))
        self.assertEqual(len(all_maps(chain(2), one_more)), 55 + 10)
        with self.assertRaises(TooLarge):
            map_order(chain(2), one_more)

    def test_too_large_orders(self):
        for first, second in (
            (chain(11), POINT),
            (antichain(11), EMPTY),
            (EMPTY, chain(17)),
            (POINT, antichain(17)),
            (chain(64), chain(64)),
        ):
            with self.assertRaises(TooLarge):
                map_order(first, second)
        self.assertEqual(map_order(chain(10), POINT), POINT)
        self.assertEqual(map_order(POINT, shuffled(chain(16), random.Random(232)))[0], 16)

    def test_maps_are_led_into_one_another_just_if_their_points_hang_together(self):
        seen = []
        for first, second in itertools.product((EMPTY, POINT, chain(2), antichain(2), VEE, WEDGE, CROWN), repeat=2):
            rows = all_maps(first, second)
            if len(rows) > 64:
                continue
            for piece in pieces(map_order(first, second)):
                for f in range(0, len(rows), 3):
                    answer = led(first, second, rows[f], rows[piece[0]])
                    self.assertEqual(answer[0], "led" if f in piece else "not")
                    seen.append(answer[0])
        self.assertGreater(seen.count("led"), 50)
        self.assertGreater(seen.count("not"), 20)

    def test_maps_of_a_ring_into_itself(self):
        order = map_order(chain(2), CROWN)
        self.assertEqual(len(pieces(order)), 1)
        rows = all_maps(beside(chain(2), chain(2)), CROWN)
        self.assertEqual(len(rows), 64)
        self.assertEqual(len(pieces(map_order(beside(chain(2), chain(2)), CROWN))), 1)


class TestSymmetries(unittest.TestCase):
    def test_some(self):
        self.assertEqual(symmetries(EMPTY), ((),))
        self.assertEqual(symmetries(POINT), ((0,),))
        self.assertEqual(symmetries(order=VEE), ((0, 1, 2), (0, 2, 1)))
        self.assertEqual(symmetries(CROWN), ((0, 1, 2, 3), (0, 1, 3, 2), (1, 0, 2, 3), (1, 0, 3, 2)))
        for n in range(9):
            self.assertEqual(symmetries(chain(n)), (tuple(range(n)),))
            self.assertEqual(symmetries(antichain(n)), tuple(itertools.permutations(range(n))))

    def test_crowns(self):
        # Crowns of more than four points can be turned on by k places, and turned over.
        self.assertEqual([len(symmetries(crown(k))) for k in (2, 3, 4)], [4, 6, 8])
        self.assertEqual(len(symmetries(sphere(3))), 16)

    def test_by_trying_all(self):
        for order in [order for order in ORDERS if order[0] < 8]:
            found = symmetries(order)
            self.assertEqual(list(found), renamings(order, order))
            self.assertTrue(is_plain(found))

    def test_8_points(self):
        self.assertEqual(len(symmetries(antichain(8))), 40320)
        for order in random_orders(6, 8, 233, smallest=8):
            found = symmetries(order)
            self.assertEqual(list(found), renamings(order, order))

    def test_too_large(self):
        for order in (chain(9), antichain(9), W, chain(64), antichain(64)):
            with self.assertRaises(TooLarge):
                symmetries(order)


def is_closure(order, row):
    return all(is_at_most(order, x, row[x]) for x in range(order[0])) and compose(row, row) == row


def is_interior(order, row):
    return all(is_at_most(order, row[x], x) for x in range(order[0])) and compose(row, row) == row


class TestClosuresAndInteriors(unittest.TestCase):
    def test_some(self):
        self.assertEqual(closures(EMPTY), ((),))
        self.assertEqual(interiors(EMPTY), ((),))
        self.assertEqual(closures(POINT), ((0,),))
        self.assertEqual(closures(order=chain(2)), ((0, 1), (1, 1)))
        self.assertEqual(interiors(order=chain(2)), ((0, 0), (0, 1)))
        self.assertEqual(interiors(VEE), ((0, 0, 0), (0, 0, 2), (0, 1, 0), (0, 1, 2)))
        self.assertEqual(closures(VEE), ((0, 1, 2),))
        self.assertEqual(closures((2, ((1, 0),))), ((0, 0), (0, 1)))

    def test_by_trying_all(self):
        for order in [order for order in ORDERS if order[0] < 6]:
            rows = reference.maps_by_trying(order, order)
            self.assertEqual(list(closures(order)), [row for row in rows if is_closure(order, row)])
            self.assertEqual(list(interiors(order)), [row for row in rows if is_interior(order, row)])
            self.assertTrue(is_plain(closures(order)) and is_plain(interiors(order)))

    def test_the_order_turned_about(self):
        for order in ORDERS + random_orders(6, 10, 234, smallest=9):
            self.assertEqual(closures(order), interiors(opposite(order)))
            self.assertEqual(interiors(order), closures(opposite(order)))
            for row in closures(order):
                self.assertIsNone(check_map(order, order, row))
                self.assertTrue(is_closure(order, row))

    def test_cores_and_no_others_have_the_identity_alone(self):
        for order in ORDERS + [sphere(4), crown(5), W, antichain(10), chain(10)]:
            alone = closures(order) == interiors(order) == (identity_map(order),)
            self.assertEqual(is_core(order), alone)

    def test_values_are_of_the_shape_of_the_order(self):
        for order in ORDERS + [chain(10), product(CROWN, chain(2)), on_top(W, POINT)]:
            for row in (closures(order) + interiors(order))[:40]:
                part = induced(order, tuple(sorted(set(row))))
                answer = same_shape(order, part) if core(order)[0] <= 8 else None
                if answer is not None:
                    self.assertEqual(answer[0], "yes")
                    self.assertIs(check_shape(order, part, answer), True)

    def test_10_points(self):
        # A closure of a chain is told by its values, any ones with the greatest point among them.
        self.assertEqual(len(closures(chain(10))), 512)
        self.assertEqual(len(interiors(chain(10))), 512)
        self.assertEqual(len(closures(on_top(antichain(9), POINT))), 512)
        self.assertEqual(closures(on_top(antichain(9), POINT))[0], tuple(range(9)) + (9,))
        self.assertEqual(len(closures(antichain(10))), 1)

    def test_too_large(self):
        for order in (chain(11), antichain(11), ring(6), chain(64), antichain(64)):
            with self.assertRaises(TooLarge):
                closures(order)
            with self.assertRaises(TooLarge):
                interiors(order)


class TestSphere(unittest.TestCase):
    def test_pair_by_pair(self):
        for k in range(32):
            n, pairs = sphere(k)
            self.assertEqual(n, 2 * k + 2)
            expected = [(x, y) for x, y in itertools.product(range(n), repeat=2) if x // 2 < y // 2]
            self.assertEqual(list(pairs), expected)
            self.assertIsNone(check_order((n, pairs)))
            self.assertTrue(is_plain((n, pairs)))

    def test_some(self):
        self.assertEqual(sphere(0), antichain(2))
        self.assertEqual(sphere(k=1), CROWN)
        self.assertEqual(sphere(2), on_top(CROWN, antichain(2)))

    def test_cores_and_homology_numbers(self):
        for k in range(32):
            self.assertIs(is_core(sphere(k)), True)
            self.assertEqual(euler(sphere(k)), 0 if k % 2 else 2)
            if k == 0:
                self.assertEqual(homology(sphere(k)), (2,))
            elif k <= 4:
                self.assertEqual(homology(sphere(k)), (1,) + (0,) * (k - 1) + (1,))
            else:
                with self.assertRaises(TooLarge):
                    homology(sphere(k))


    def test_more_than_64_points(self):
        for k in (32, 33, 64, HUGE):
            with self.assertRaises(TooLarge):
                sphere(k)


class TestCrown(unittest.TestCase):
    def test_pair_by_pair(self):
        for k in range(2, 33):
            n, pairs = crown(k)
            self.assertEqual(n, 2 * k)
            expected = {(i, k + i) for i in range(k)} | {((i + 1) % k, k + i) for i in range(k)}
            self.assertEqual(list(pairs), sorted(expected))
            self.assertIsNone(check_order((n, pairs)))
            self.assertTrue(is_plain((n, pairs)))

    def test_some(self):
        self.assertEqual(crown(2), CROWN)
        self.assertEqual(crown(k=3), (6, ((0, 3), (0, 5), (1, 3), (1, 4), (2, 4), (2, 5))))

    def test_cores_and_homology_numbers(self):
        for k in range(2, 33):
            self.assertIs(is_core(crown(k)), True)
            self.assertEqual(euler(crown(k)), 0)
            if k <= 5:
                self.assertEqual(homology(crown(k)), (1, 1))
            else:
                with self.assertRaises(TooLarge):
                    homology(crown(k))

    def test_more_than_64_points(self):
        for k in (33, 34, 65, HUGE):
            with self.assertRaises(TooLarge):
                crown(k)

    def test_crowns_with_unlike_numbers_are_not_of_one_shape(self):
        for k, m in itertools.product((2, 3, 4, 9, 32), repeat=2):
            if k != m:
                answer = same_shape(crown(k), crown(m))
                self.assertEqual(answer, ("no", (), (), (1, ())))
                self.assertIs(check_shape(crown(k), crown(m), answer), True)
        for k in (2, 3, 4):
            self.assertEqual(same_shape(crown(k), crown(k)), ("yes", (), (), tuple(range(2 * k))))


def turns_by_words(k, m, row):
    """[57], step by step."""
    ring_points = [point for i in range(k) for point in (i, k + i)] + [0]
    others = [point for i in range(m) for point in (i, m + i)]
    total = 0
    for x, y in zip(ring_points, ring_points[1:]):
        here, there = others.index(row[x]), others.index(row[y])
        if (here + 1) % (2 * m) == there:
            total += 1
        elif (there + 1) % (2 * m) == here:
            total -= 1
        else:
            assert here == there
    assert total % (2 * m) == 0
    return total // (2 * m)


def map_round(k, m, values):
    """The map from crown(k) to crown(m) whose values are told as the first ring goes."""
    others = [point for i in range(m) for point in (i, m + i)]
    row = [None] * (2 * k)
    for place, x in enumerate(point for i in range(k) for point in (i, k + i)):
        row[x] = others[values[place] % (2 * m)]
    return tuple(row)


class TestTurns(unittest.TestCase):
    def test_examples(self):
        self.assertEqual(turns(2, 2, (0, 1, 2, 3)), 1)
        self.assertEqual(turns(2, 2, (1, 0, 3, 2)), 1)
        self.assertEqual(turns(k=2, m=2, row=(0, 1, 3, 2)), -1)
        for x in range(4):
            self.assertEqual(turns(2, 2, (x,) * 4), 0)

    def test_all_maps_of_small_crowns(self):
        seen = set()
        for k, m in itertools.product((2, 3, 4), repeat=2):
            rows = all_maps(crown(k), crown(m))
            for row in random.Random(235).sample(rows, min(len(rows), 600)):
                found = turns(k, m, row)
                self.assertEqual(found, turns_by_words(k, m, row))
                self.assertLessEqual(abs(found), k // m)
                seen.add((k, m, found))
        for k, m in ((2, 2), (3, 3), (4, 4), (3, 2)):
            self.assertTrue({(k, m, 0), (k, m, 1), (k, m, -1)} <= seen)

    def test_several_times_round_and_back(self):
        for k, m, often in ((4, 2, 2), (32, 2, 16), (32, 2, 3), (30, 3, 10), (6, 3, 2), (32, 32, 1), (9, 4, 2), (5, 2, 2)):
            for sign in (1, -1):
                steps = 2 * m * often
                values = [sign * min(place, steps) for place in range(2 * k)]
                row = map_round(k, m, values)
                self.assertIsNone(check_map(crown(k), crown(m), row))
                self.assertEqual(turns(k, m, row), sign * often)

    def test_not_round(self):
        # There and back again.
        for k, m in ((4, 2), (32, 7), (16, 3), (2, 32), (3, 2)):
            values = [min(place, 2 * k - place) for place in range(2 * k)]
            row = map_round(k, m, values)
            self.assertIsNone(check_map(crown(k), crown(m), row))
            self.assertEqual(turns(k, m, row), 0)
            for x in range(2 * m):
                self.assertEqual(turns(k, m, (x,) * (2 * k)), 0)

    def test_unlike_sizes(self):
        # From a crown of fewer points there is no way round.
        for k, m in ((2, 3), (3, 4), (2, 4)):
            self.assertEqual({turns(k, m, row) for row in all_maps(crown(k), crown(m))}, {0})
        self.assertEqual({turns(4, 2, row) for row in all_maps(crown(4), crown(2))}, {-2, -1, 0, 1, 2})

    def test_rotations_of_large_crowns(self):
        for k in (2, 5, 17, 32):
            for by in (0, 1, k - 1):
                row = tuple((i + by) % k for i in range(k))
                row += tuple(k + (i + by) % k for i in range(k))
                self.assertEqual(turns(k, k, row), 1)
                self.assertEqual(turns(k, k, tuple(row.index(x) for x in range(2 * k))), 1)

    def test_small_steps_keep_them(self):
        source = random.Random(236)
        for k, m in ((2, 2), (3, 2), (4, 2), (5, 2), (4, 3), (6, 3), (3, 4)):
            row = map_round(k, m, [min(place, 2 * m * (k // m)) for place in range(2 * k)])
            expected = turns(k, m, row)
            for _ in range(60):
                steps = reference.steps_near(crown(k), crown(m), row)
                if steps:
                    row = reference.after_step(row, source.choice(steps))
                self.assertEqual(turns(k, m, row), expected)

    def test_maps_that_are_led_into_one_another(self):
        rows = all_maps(crown(2), crown(2))
        for row, other in itertools.product(rows[::3], rows[::5]):
            if led(crown(2), crown(2), row, other)[0] == "led":
                self.assertEqual(turns(2, 2, row), turns(2, 2, other))

    def test_lefschetz_numbers(self):
        source = random.Random(237)
        for k in (2, 3, 4):
            rows = all_maps(crown(k), crown(k))
            for row in source.sample(rows, min(len(rows), 300)):
                self.assertEqual(lefschetz(crown(k), row), 1 - turns(k, k, row))
        for k in (20, 32):
            self.assertEqual(lefschetz(crown(k), identity_map(crown(k))), 0)
            mirrored = map_round(k, k, [-place for place in range(2 * k)])
            self.assertEqual(turns(k, k, mirrored), -1)
            self.assertEqual(lefschetz(crown(k), mirrored), 2)
