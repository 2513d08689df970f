"""[45]: orders that weak strikes, made and taken back, lead into one another."""

import random
import unittest

from strikecore.building import beside, induced, on_top, opposite, product
from strikecore.chains import homology
from strikecore.errors import TooLarge
from strikecore.joined import check_joined, joined
from strikecore.shapes import same_shape
from strikecore.weak import weak_left, weak_row
from tests.reference import CROWN, EMPTY, HUGE, POINT, SMALL_ORDERS, STRANGE_VALUES, VEE, WEDGE
from tests.reference import antichain, are_alike, chain, is_plain, random_orders, random_weak_row, renamings, ring, shuffled
from tests.test_fixed import STUCK
from tests.test_weak import POINT_BELOW_W, W

CROWN_TURNED = (4, ((2, 0), (2, 1), (3, 0), (3, 1)))
JOINED = [
    (EMPTY, EMPTY),
    (POINT, POINT),
    (VEE, WEDGE),
    (W, POINT),
    (W, chain(5)),
    (opposite(W), POINT_BELOW_W),
    (CROWN, CROWN),
    (CROWN, CROWN_TURNED),
    (CROWN_TURNED, product(CROWN, chain(3))),
    (beside(W, POINT), antichain(2)),
    (beside(CROWN, W), beside(VEE, CROWN_TURNED)),
    (ring(4), shuffled(ring(4), random.Random(191))),
]
APART = [
    (EMPTY, POINT),
    (POINT, antichain(2)),
    (CROWN, W),
    (CROWN, antichain(4)),
    (CROWN, antichain(2)),
    (ring(3), on_top(antichain(2), on_top(antichain(2), antichain(2)))),
    (beside(CROWN, CROWN), ring(4)),
    (antichain(9), antichain(10)),
    (ring(5), antichain(7)),
]
OPEN = [
    (CROWN, ring(3)),
    (ring(3), ring(4)),
    (ring(5), CROWN),
    (product(ring(4), chain(2)), ring(5)),
    (beside(CROWN, POINT), beside(VEE, ring(3))),
]


def both_ways(pairs):
    return pairs + [(second, first) for first, second in pairs]


def what_is_left(order, strikes):
    return induced(order, weak_left(order, strikes))


class TestJoined(unittest.TestCase):
    def test_examples_of_each_case(self):
        self.assertEqual(joined(EMPTY, EMPTY), ("joined", (), (), ()))
        self.assertEqual(joined(W, POINT), ("joined", weak_row(W), (), (0,)))
        self.assertEqual(joined(first=CROWN, second=CROWN_TURNED), ("joined", (), (), (2, 3, 0, 1)))
        self.assertEqual(joined(CROWN, W), ("not", (1, 1), (1,)))
        self.assertEqual(joined(EMPTY, POINT), ("not", (), (1,)))
        self.assertEqual(joined(CROWN, ring(3)), ("open",))

    def test_joined(self):
        for first, second in both_ways(JOINED):
            answer = joined(first, second)
            word, a, b, renaming = answer
            self.assertEqual((word, a, b), ("joined", weak_row(first), weak_row(second)))
            low, high = what_is_left(first, a), what_is_left(second, b)
            self.assertEqual(renaming, min(renamings(low, high)))
            self.assertTrue(is_plain(answer))

    def test_not(self):
        for first, second in both_ways(APART):
            answer = joined(first, second)
            self.assertEqual(answer, ("not", homology(first), homology(second)))
            self.assertNotEqual(answer[1], answer[2])
            self.assertTrue(is_plain(answer))

    def test_open(self):
        for first, second in both_ways(OPEN):
            self.assertEqual(joined(first, second), ("open",))
            self.assertEqual(homology(first), homology(second))

    def test_random_pairs(self):
        source = random.Random(192)
        orders = SMALL_ORDERS[:12] + [CROWN, antichain(2), ring(3), ring(4), W] + random_orders(30, 7, 193)
        seen = set()
        for _ in range(300):
            first, second = source.choice(orders), source.choice(orders)
            answer = joined(first, second)
            seen.add(answer[0])
            a, b = weak_row(first), weak_row(second)
            if are_alike(what_is_left(first, a), what_is_left(second, b)):
                self.assertEqual(answer[:3], ("joined", a, b))
            elif homology(first) != homology(second):
                self.assertEqual(answer, ("not", homology(first), homology(second)))
            else:
                self.assertEqual(answer, ("open",))
            if same_shape(first, second)[0] == "yes":
                self.assertNotEqual(answer[0], "not")
        self.assertEqual(seen, {"joined", "not", "open"})

    def test_what_is_left_counts_and_not_the_order(self):
        self.assertEqual(joined(product(W, chain(7)), chain(64))[0], "joined")
        self.assertEqual(joined(product(CROWN, chain(16)), CROWN)[0], "joined")
        self.assertEqual(joined(beside(product(W, chain(6)), POINT), antichain(3)), ("not", (2,), (3,)))
        self.assertEqual(joined(antichain(8), antichain(8)), ("joined", (), (), tuple(range(8))))
        self.assertEqual(joined(beside(antichain(7), chain(57)), antichain(8))[0], "joined")

    def test_too_large_for_the_same_number_of_points_left(self):
        for first, second in (
            (antichain(9), antichain(9)),
            (antichain(10), ring(5)),
            (beside(antichain(8), W), antichain(9)),
            (antichain(64), antichain(64)),
            (ring(32), on_top(antichain(32), antichain(32))),
            (STUCK, ring(7)),
            (STUCK, STUCK),
        ):
            for one, other in ((first, second), (second, first)):
                with self.assertRaises(TooLarge):
                    joined(one, other)

    def test_too_large_as_homology(self):
        for small in (EMPTY, POINT, CROWN, antichain(10), ring(5), chain(64)):
            for large in (antichain(11), ring(6), antichain(64), ring(32), STUCK):
                for first, second in ((small, large), (large, small)):
                    with self.assertRaises(TooLarge):
                        joined(first, second)
        with self.assertRaises(TooLarge):
            joined(antichain(11), antichain(12))

    def test_unlike_numbers_of_points_up_to_ten(self):
        self.assertEqual(joined(antichain(10), antichain(9)), ("not", (10,), (9,)))
        self.assertEqual(joined(ring(5), ring(4)), ("open",))
        self.assertEqual(joined(ring(5), chain(64)), ("not", (1, 1), (1,)))


class TestCheckJoined(unittest.TestCase):
    def test_answers_are_taken(self):
        for first, second in both_ways(JOINED + APART):
            answer = joined(first, second)
            self.assertIs(check_joined(first=first, second=second, answer=answer), True)

    def test_open_is_not_taken(self):
        for first, second in both_ways(OPEN + JOINED[:4] + APART[:4]):
            self.assertIs(check_joined(first, second, ("open",)), False)
            self.assertIs(check_joined(first, second, ("open", (), ())), False)
            self.assertIs(check_joined(first, second, ("open", (), (), ())), False)

    def test_other_weak_rows(self):
        source = random.Random(194)
        seen = []
        orders = SMALL_ORDERS[8:] + [CROWN, W, POINT_BELOW_W] + random_orders(20, 6, 195)
        for order in orders:
            other = shuffled(order, source)
            for length in (0, 1, 2, None):
                a = random_weak_row(order, source, length)
                b = random_weak_row(other, source, length)
                low, high = what_is_left(order, a), what_is_left(other, b)
                if low[0] < 8:
                    good = renamings(low, high)
                    for renaming in good[:3]:
                        self.assertIs(check_joined(order, other, ("joined", a, b, renaming)), True)
                    wrong = tuple(range(low[0]))
                    self.assertIs(check_joined(order, other, ("joined", a, b, wrong)), wrong in good)
                    seen.append(bool(good))
        self.assertGreater(seen.count(True), 30)
        self.assertGreater(seen.count(False), 3)

    def test_rows_that_are_not_finished_and_large_ones(self):
        names = tuple(range(64))
        self.assertIs(check_joined(antichain(64), antichain(64), ("joined", (), (), names)), True)
        self.assertIs(check_joined(antichain(64), antichain(64), ("joined", (), (), names[::-1])), True)
        self.assertIs(check_joined(chain(64), chain(64), ("joined", (), (), names)), True)
        self.assertIs(check_joined(chain(64), chain(64), ("joined", (), (), names[::-1])), False)
        self.assertIs(check_joined(chain(64), chain(63), ("joined", ((5, "above"),), (), names[:63])), True)
        self.assertIs(check_joined(STUCK, STUCK, ("joined", (), (), tuple(range(15)))), True)

    def test_rows_that_cannot_be_made(self):
        good = joined(W, VEE)
        self.assertIs(check_joined(W, VEE, good), True)
        for a, b in (
            (good[1][:-1], good[2]),
            (good[1], good[2][:-1]),
            (good[1][1:], good[2]),
            (good[1] + good[1][-1:], good[2]),
            (good[2], good[1]),
            (good[1], ((1, "down"), (0, "up"))),
            (good[1], ((1, "below"), (3, "above"))),
            (good[1], ((1, "below"), (-1, "above"))),
            (good[1], ((1, "below"), (HUGE, "above"))),
            (good[1], ((1, "below"), ("0", "above"))),
            (good[1], ((1, "below"), (0, "above", None))),
            (good[1], ((1, "below"), (0, "ab"))),
            (good[1], None),
            (None, good[2]),
            ("", ""),
        ):
            self.assertIs(check_joined(W, VEE, ("joined", a, b, (0,))), False, (a, b))

    def test_renamings_that_do_not_fit(self):
        good = joined(CROWN, CROWN_TURNED)
        for renaming in ((3, 2, 1, 0), (2, 3, 1, 0)):
            self.assertIs(check_joined(CROWN, CROWN_TURNED, good[:3] + (renaming,)), True)
        for renaming in ((0, 1, 2, 3), (2, 0, 3, 1), (2, 2, 0, 1), (2, 3, 0), (2, 3, 0, 4), (2, 3, 0, -3), (2, 3, 0, "1"), ()):
            self.assertIs(check_joined(CROWN, CROWN_TURNED, good[:3] + (renaming,)), False)
        self.assertIs(check_joined(CROWN, CROWN, ("joined", (), (), (0, 2, 1, 3))), False)
        self.assertIs(check_joined(antichain(2), POINT, ("joined", (), (), (0, 0))), False)

    def test_homology_numbers(self):
        self.assertIs(check_joined(CROWN, W, ("not", (1, 1), (1,))), True)
        for answer in (
            ("not", (1,), (1, 1)),
            ("not", (1, 1), (1, 1)),
            ("not", (1,), (1,)),
            ("not", (1, 1), (1, 0)),
            ("not", (1, 1), (2,)),
            ("not", (1, 2), (1,)),
            ("not", (1, 1), ()),
            ("not", (1, 1), None),
            ("not", (1, 1, 0), (1,)),
            ("not", ("1", 1), (1,)),
            ("not", "(1, 1)", "(1,)"),
            ("not", (1, 1), (1,), ()),
            ("not", (1, 1)),
            ("not",),
            ("joined", (1, 1), (1,)),
        ):
            self.assertIs(check_joined(CROWN, W, answer), False, answer)

    def test_equal_homology_numbers(self):
        for first, second in both_ways(OPEN + [(VEE, WEDGE), (EMPTY, EMPTY), (W, POINT)]):
            self.assertIs(check_joined(first, second, ("not", homology(first), homology(second))), False)

    def test_not_where_homology_is_too_large(self):
        for large, numbers in ((antichain(11), (11,)), (ring(6), (1, 1)), (STUCK, (1,)), (antichain(64), (64,))):
            for small in (EMPTY, CROWN, antichain(10)):
                own = homology(small)
                self.assertIs(check_joined(large, small, ("not", numbers, own)), False)
                self.assertIs(check_joined(small, large, ("not", own, numbers)), False)
                self.assertIs(check_joined(large, small, ("not", own, numbers)), False)
                self.assertIs(check_joined(large, small, ("not", own, own)), False)
                self.assertIs(check_joined(small, large, ("not", None, None)), False)
            self.assertIs(check_joined(large, large, ("not", numbers, own)), False)

    def test_values_of_any_form(self):
        for value in STRANGE_VALUES:
            for first, second in ((EMPTY, EMPTY), (CROWN, W), (POINT, VEE), (antichain(64), CROWN)):
                self.assertIs(check_joined(first, second, value), False)
                for word in ("joined", "not", "open", None, value):
                    for rest in ((), (value,), (value, value), ((), value), (value, value, value), ((), (), (), value)):
                        self.assertIs(check_joined(first, second, (word,) + rest), self.is_good(first, (word,) + rest))
        for value in STRANGE_VALUES:
            self.assertIs(check_joined(CROWN, W, ("not", (1, 1), value)), False)
            self.assertIs(check_joined(CROWN, W, ("not", value, (1,))), False)
            self.assertIs(check_joined(CROWN, CROWN, ("joined", (), (), value)), False)

    def is_good(self, first, answer):
        return first == EMPTY and answer == ("joined", (), (), ())
