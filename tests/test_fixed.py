"""[39], [44]: fixed points of rising maps."""

import itertools
import random
import unittest

from strikecore.building import beside, induced, on_top, opposite, product
from strikecore.chains import chain_counts, euler
from strikecore.cores import core, core_points, core_strikes, is_contractible
from strikecore.errors import TooLarge
from strikecore.fixed import check_fixed, fixed_answer, fixed_points, lefschetz
from strikecore.maps import all_maps, check_map, identity_map
from strikecore.orders import order_of
from strikecore.weak import weak_left, weak_row
from tests import reference
from tests.reference import CROWN, EMPTY, HUGE, POINT, SMALL_ORDERS, STRANGE_VALUES, VEE, WEDGE
from tests.reference import antichain, chain, is_plain, random_orders, random_weak_row, ring, shuffled
from tests.test_weak import POINT_BELOW_W, W, W_ROW

# Contractible; but weak_row strikes 0 and 1 and then can go on no more.
STUCK_COVERS = (
    ((2, 0), (3, 1), (4, 0), (5, 1), (6, 3), (6, 5), (7, 2), (7, 4), (8, 2), (8, 5), (9, 2), (9, 4), (10, 3), (10, 4))
    + ((11, 3), (11, 5), (12, 6), (12, 9), (12, 10), (12, 11), (13, 7), (13, 8), (13, 9), (13, 11))
    + ((14, 6), (14, 7), (14, 8), (14, 10))
)
STUCK = order_of(15, STUCK_COVERS)

ORDERS = SMALL_ORDERS + [CROWN, chain(5), ring(3), on_top(POINT, CROWN)] + random_orders(25, 5, 181, smallest=4)


def random_map(order, source):
    rows = all_maps(order, order)
    return source.choice(rows)


def chains_kept(order, row):
    """The numbers of chains of even and of odd length whose points are taken to themselves."""
    kept = [points for points in reference.chains(order) if all(row[x] == x for x in points)]
    odd = sum(len(points) % 2 == 0 for points in kept)
    return len(kept) - odd, odd


def free_maps(order):
    """All rising maps without a fixed point, ascending, found by trying all rows; for small orders."""
    rows = reference.maps_by_trying(order, order)
    return [row for row in rows if not any(value == x for x, value in enumerate(row))]


class TestFixedPoints(unittest.TestCase):
    def test_some(self):
        self.assertEqual(fixed_points(EMPTY, ()), ())
        self.assertEqual(fixed_points(POINT, (0,)), (0,))
        self.assertEqual(fixed_points(order=VEE, row=(0, 2, 1)), (0,))
        self.assertEqual(fixed_points(CROWN, (1, 0, 3, 2)), ())
        self.assertEqual(fixed_points(CROWN, (0, 1, 3, 2)), (0, 1))
        self.assertEqual(fixed_points(chain(64), tuple(range(64))), tuple(range(64)))
        self.assertEqual(fixed_points(chain(64), (7,) * 64), (7,))

    def test_all_maps(self):
        for order in ORDERS[:30] + [CROWN]:
            for row in all_maps(order, order):
                found = fixed_points(order, row)
                self.assertEqual(found, tuple(x for x in range(order[0]) if row[x] == x))
                self.assertTrue(is_plain(found))


class TestLefschetz(unittest.TestCase):
    def test_identity(self):
        for order in ORDERS + [chain(64), antichain(64), ring(32), W, EMPTY]:
            self.assertEqual(lefschetz(order, identity_map(order)), euler(order))

    def test_constant_maps(self):
        for order in ORDERS + [chain(64), ring(32)]:
            for x in range(order[0]):
                self.assertEqual(lefschetz(order, (x,) * order[0]), 1)

    def test_maps_without_a_fixed_point(self):
        self.assertEqual(lefschetz(EMPTY, ()), 0)
        self.assertEqual(lefschetz(order=CROWN, row=(1, 0, 3, 2)), 0)
        self.assertEqual(lefschetz(antichain(3), (1, 2, 0)), 0)

    def test_values_below_0_and_large_ones(self):
        order = on_top(antichain(30), antichain(30))
        self.assertEqual(lefschetz(order, identity_map(order)), 60 - 900)
        self.assertEqual(lefschetz(order, tuple(range(30)) + (31,) + tuple(range(31, 60))), 59 - 870)
        self.assertEqual(lefschetz(antichain(64), tuple(range(64))), 64)
        self.assertEqual(lefschetz(antichain(64), tuple(range(63)) + (0,)), 63)

    def test_a_count_of_the_chains_that_stay(self):
        source = random.Random(182)
        for order in ORDERS:
            rows = all_maps(order, order)
            for row in source.sample(rows, min(len(rows), 15)):
                even, odd = chains_kept(order, row)
                self.assertEqual(lefschetz(order, row), even - odd)

    def test_small_steps_keep_it(self):
        source = random.Random(183)
        for order in ORDERS + [ring(4), W]:
            row = identity_map(order) if order[0] > 5 else random_map(order, source)
            expected = lefschetz(order, row)
            for _ in range(15):
                steps = reference.steps_near(order, order, row)
                if steps:
                    row = reference.after_step(row, source.choice(steps))
                self.assertEqual(lefschetz(order, row), expected)

    def test_contractible_orders(self):
        for order in ORDERS:
            if is_contractible(order):
                for row in all_maps(order, order):
                    self.assertEqual(lefschetz(order, row), 1)
                    self.assertNotEqual(fixed_points(order, row), ())
        self.assertEqual(lefschetz(POINT_BELOW_W, identity_map(POINT_BELOW_W)), 1)


class TestFixedAnswer(unittest.TestCase):
    def test_some(self):
        self.assertEqual(fixed_answer(EMPTY), ("free", ()))
        self.assertEqual(fixed_answer(POINT), ("always", ()))
        self.assertEqual(fixed_answer(order=VEE), ("always", ((1, "below"), (0, "above"))))
        self.assertEqual(fixed_answer(CROWN), ("free", (1, 0, 3, 2)))
        self.assertEqual(fixed_answer(antichain(2)), ("free", (1, 0)))
        self.assertEqual(fixed_answer(antichain(3)), ("free", (1, 0, 0)))
        self.assertEqual(fixed_answer(beside(VEE, WEDGE)), ("free", (5, 5, 5, 2, 2, 2)))

    def test_always_without_being_contractible(self):
        self.assertIs(is_contractible(W), False)
        self.assertEqual(fixed_answer(W), ("always", W_ROW))
        self.assertEqual(fixed_answer(opposite(W)), ("always", weak_row(opposite(W))))
        # The first case counts also where the core has more than 8 points.
        order = product(W, chain(7))
        self.assertEqual(len(core_points(order)), 9)
        self.assertEqual(fixed_answer(order), ("always", weak_row(order)))

    def test_against_all_maps(self):
        for order in ORDERS:
            strikes = weak_row(order)
            answer = fixed_answer(order)
            self.assertTrue(is_plain(answer))
            if len(weak_left(order, strikes)) == 1:
                self.assertEqual(answer, ("always", strikes))
                self.assertEqual(free_maps(order), [])
            else:
                self.assertEqual(answer, ("free", self.free_row(order)))
                self.assertIn(answer[1], free_maps(order))

    def free_row(self, order):
        """[44], word by word."""
        points = core_points(order)
        least = free_maps(core(order))[0]
        ends = reference.led_on(order, core_strikes(order))
        return tuple(points[least[points.index(ends[x])]] for x in range(order[0]))

    def test_the_core_is_smaller_than_the_order(self):
        source = random.Random(184)
        for small in (CROWN, ring(3), antichain(2), antichain(3), beside(CROWN, POINT)):
            for large in (product(small, chain(2)), product(VEE, small), beside(chain(4), small), on_top(small, antichain(2))):
                order = shuffled(large, source)
                if core(order)[0] <= 6:
                    self.assertEqual(fixed_answer(order), ("free", self.free_row(order)))

    def test_the_least_map_of_cores_of_8_points(self):
        self.assertEqual(fixed_answer(antichain(8)), ("free", (1, 0, 0, 0, 0, 0, 0, 0)))
        self.assertEqual(fixed_answer(ring(4)), ("free", (1, 2, 3, 0, 5, 6, 7, 4)))
        for order in (ring(4), beside(CROWN, CROWN), on_top(CROWN, CROWN), beside(ring(3), antichain(2))):
            word, row = fixed_answer(order)
            self.assertEqual(word, "free")
            self.assertEqual(row, next(rows for rows in self.rising_rows(order, order) if self.is_free(rows)))

    def rising_rows(self, first, second, row=()):
        """All rising maps without fixed points, ascending, one by one."""
        if len(row) == first[0]:
            yield row
            return
        x = len(row)
        for value in range(second[0]):
            low = all(reference.is_at_most(second, row[y], value) for y in range(x) if (y, x) in first[1])
            high = all(reference.is_at_most(second, value, row[y]) for y in range(x) if (x, y) in first[1])
            if value != x and low and high:
                yield from self.rising_rows(first, second, row + (value,))

    def is_free(self, row):
        return all(value != x for x, value in enumerate(row))

    def test_tried(self):
        self.assertIs(is_contractible(STUCK), True)
        self.assertEqual(weak_row(STUCK), ((0, "below"), (1, "below")))
        self.assertEqual(fixed_answer(STUCK), ("tried",))
        for order in (opposite(STUCK), product(STUCK, chain(4))):
            self.assertIs(is_contractible(order), True)
            self.assertEqual(len(weak_left(order, weak_row(order))), 13)
            self.assertEqual(fixed_answer(order), ("tried",))

    def test_too_large(self):
        for order in (antichain(9), antichain(64), ring(5), ring(32), beside(W, POINT)):
            self.assertGreater(len(core_points(order)), 8)
            with self.assertRaises(TooLarge):
                fixed_answer(order)
        # It is the core that counts; what weak_row leaves may be smaller.
        self.assertEqual(len(weak_left(beside(W, POINT), weak_row(beside(W, POINT)))), 2)

    def test_64_points(self):
        self.assertEqual(fixed_answer(chain(64)), ("always", tuple((x, "above") for x in range(63))))
        for small in (ring(4), on_top(CROWN, CROWN), antichain(8)):
            order = product(small, chain(8))
            self.assertEqual(order[0], 64)
            word, row = fixed_answer(order)
            self.assertEqual(word, "free")
            self.assertIsNone(check_map(order, order, row))
            self.assertEqual(fixed_points(order, row), ())
            self.assertIs(check_fixed(order, (word, row)), True)
        with self.assertRaises(TooLarge):
            fixed_answer(product(antichain(16), chain(4)))


class TestCheckFixed(unittest.TestCase):
    def test_answers_are_taken(self):
        for order in ORDERS + [W, opposite(W), chain(64), antichain(8), ring(4), product(CROWN, chain(16))]:
            answer = fixed_answer(order)
            self.assertIs(check_fixed(order=order, answer=answer), answer != ("tried",))
            for other in (VEE, EMPTY, chain(3), antichain(4)):
                if other != order and other[0] != order[0]:
                    self.assertIs(check_fixed(other, answer), False)

    def test_tried_is_not_taken(self):
        for order in (STUCK, EMPTY, POINT, CROWN, W, antichain(9)):
            self.assertIs(check_fixed(order, ("tried",)), False)
            self.assertIs(check_fixed(order, ("tried", ())), False)

    def test_other_weak_rows(self):
        source = random.Random(185)
        for order in ORDERS + [W, STUCK, POINT_BELOW_W]:
            for _ in range(4):
                row = random_weak_row(order, source)
                expected = order[0] - len(row) == 1
                self.assertIs(check_fixed(order, ("always", row)), expected)
                if row:
                    self.assertIs(check_fixed(order, ("always", row[:-1])), False)
                    self.assertIs(check_fixed(order, ("always", row + row[-1:])), False)
        self.assertIs(check_fixed(EMPTY, ("always", ())), False)
        self.assertIs(check_fixed(antichain(2), ("always", ())), False)
        self.assertIs(check_fixed(POINT, ("always", ())), True)

    def test_a_finer_row_than_weak_row_is_taken(self):
        # What is not contractible by weak_row may be struck to one point by another row.
        strikes = tuple((x, "below" if way == "down" else "above") for x, way in core_strikes(STUCK))
        self.assertIs(check_fixed(STUCK, ("always", strikes)), True)

    def test_rows_that_cannot_be_made(self):
        good = ((1, "below"), (0, "above"))
        self.assertIs(check_fixed(VEE, ("always", good)), True)
        self.assertIs(check_fixed(VEE, ("always", ((1, "below"), (2, "below")))), True)
        for strikes in (
            good[::-1],
            ((1, "down"), (0, "up")),
            ((1, "below"), (1, "below")),
            ((1, "below"), (0, "below")),
            ((1, "below"), (3, "above")),
            ((1, "below"), (-1, "above")),
            ((1, "below"), (HUGE, "above")),
            ((1, "below"), (0, "beside")),
            ((1, "below"), (0, None)),
            ((1, "below"), ("0", "above")),
            ((1, "below"), (0, "above", 0)),
            ((1, "below"), (0,)),
            ((1, "below"), ()),
            ((1, "below"), None),
            good + ((2, "below"),),
        ):
            self.assertIs(check_fixed(VEE, ("always", strikes)), False, strikes)

    def test_other_rows_without_a_fixed_point(self):
        for order in SMALL_ORDERS + [CROWN]:
            free = free_maps(order)
            for row in itertools.product(range(order[0]), repeat=order[0]):
                self.assertIs(check_fixed(order, ("free", row)), row in free)

    def test_rows_that_are_no_maps(self):
        good = (1, 0, 3, 2)
        self.assertIs(check_fixed(CROWN, ("free", good)), True)
        for row in (
            good[:3],
            good + (0,),
            (1, 0, 3, 4),
            (1, 0, 3, -2),
            (1, 0, 3, HUGE),
            (1, 0, 3, None),
            (1, 0, 3, "2"),
            (1, 0, 3, (2,)),
            (2, 0, 3, 0),
            (0, 1, 2, 3),
            (1, 0, 2, 3),
            "1032",
            None,
            1032,
        ):
            self.assertIs(check_fixed(CROWN, ("free", row)), False, row)

    def test_values_of_any_form(self):
        for value in STRANGE_VALUES:
            for order in (EMPTY, POINT, VEE, CROWN, antichain(64)):
                self.assertIs(check_fixed(order, value), False)
                self.assertIs(check_fixed(order, ("always", value)), order == POINT and value == ())
                self.assertIs(check_fixed(order, ("free", value)), order == EMPTY and value == ())
                for answer in (("free",), ("free", value, ()), ("always",), ("always", value, ()), (value, ()), (value, value)):
                    self.assertIs(check_fixed(order, answer), False)
        self.assertIs(check_fixed(POINT, (("always",), ())), False)
        self.assertIs(check_fixed(CROWN, ("free", (1, 0, 3, 2), None)), False)
        self.assertIs(check_fixed(CROWN, ("Free", (1, 0, 3, 2))), False)

    def test_no_size_is_too_large(self):
        self.assertIs(check_fixed(antichain(64), ("free", tuple(range(1, 64)) + (0,))), True)
        self.assertIs(check_fixed(antichain(64), ("free", tuple(range(64)))), False)
        self.assertIs(check_fixed(antichain(64), ("always", ())), False)
        self.assertIs(check_fixed(ring(32), ("free", tuple(range(1, 32)) + (0,) + tuple(range(33, 64)) + (32,))), True)


class TestCoresOfAFewPoints(unittest.TestCase):
    def test_an_order_has_a_free_map_just_if_its_core_has_one(self):
        for order in ORDERS:
            self.assertEqual(bool(free_maps(order)), bool(free_maps(core(order))))
            self.assertEqual(fixed_answer(order)[0] == "free", bool(free_maps(order)))

    def test_euler_number_of_stuck(self):
        self.assertEqual(euler(STUCK), 1)
        self.assertEqual(chain_counts(induced(STUCK, tuple(range(2, 15))))[0], 13)
