"""[25] to [29]: orders of one shape, and the papers for it."""

import itertools
import random
import unittest

from strikecore.building import beside, induced, on_top, opposite, product
from strikecore.cores import core, core_points, core_strikes, strike_fence, strike_map
from strikecore.errors import NotTaken, TooLarge
from strikecore.maps import check_map, compose, identity_map
from strikecore.quotients import find_test
from strikecore.shapes import check_shape, same_shape, shape_maps
from strikecore.steps import check_fence
from strikecore.strikes import points_left
from tests import reference
from tests.reference import CROWN, EMPTY, HUGE, POINT, SMALL_ORDERS, STRANGE_VALUES, VEE, WEDGE
from tests.reference import antichain, are_alike, chain, is_plain, random_orders, random_row, renamings, ring, shuffled

CROWN_WITH_TAIL = (5, ((0, 2), (0, 3), (0, 4), (1, 2), (1, 3), (1, 4), (2, 4)))
CROWN_TURNED = (4, ((2, 0), (2, 1), (3, 0), (3, 1)))
ONE_SHAPE = [
    (EMPTY, EMPTY),
    (POINT, VEE),
    (VEE, WEDGE),
    (CROWN, CROWN_TURNED),
    (CROWN, CROWN_WITH_TAIL),
    (CROWN_TURNED, product(CROWN, chain(2))),
    (antichain(2), beside(VEE, chain(3))),
    (ring(4), product(chain(2), ring(4))),
]
OTHER_SHAPES = [
    (EMPTY, POINT),
    (VEE, antichain(2)),
    (CROWN, VEE),
    (CROWN, antichain(4)),
    (CROWN, ring(3)),
    (ring(4), beside(CROWN, CROWN)),
    (CROWN_WITH_TAIL, beside(VEE, chain(3))),
    (ring(3), on_top(antichain(2), on_top(antichain(2), antichain(2)))),
]


def random_pairs():
    orders = random_orders(40, 7, 101)
    return list(zip(orders[:20], orders[20:]))


def both_ways(pairs):
    return pairs + [(second, first) for first, second in pairs]


class TestSameShape(unittest.TestCase):
    def check_answer(self, first, second, of_one_shape):
        answer = same_shape(first=first, second=second)
        word, one, other, paper = answer
        self.assertEqual(word, "yes" if of_one_shape else "no")
        self.assertEqual((one, other), (core_strikes(first), core_strikes(second)))
        low, high = core(first), core(second)
        if of_one_shape:
            self.assertEqual(paper, min(renamings(low, high)))
        elif low[0] != high[0]:
            self.assertEqual(paper, (1, ()))
        else:
            self.assertEqual(paper, find_test(low, high))
        self.assertTrue(is_plain(answer))
        self.assertIs(check_shape(first, second, answer), True)

    def test_orders_of_one_shape(self):
        for first, second in both_ways(ONE_SHAPE):
            self.check_answer(first, second, True)

    def test_orders_of_other_shapes(self):
        for first, second in both_ways(OTHER_SHAPES):
            self.check_answer(first, second, False)

    def test_answers_in_full(self):
        self.assertEqual(same_shape(VEE, POINT), ("yes", ((1, "down"), (0, "up")), (), (0,)))
        self.assertEqual(same_shape(EMPTY, EMPTY), ("yes", (), (), ()))
        self.assertEqual(same_shape(EMPTY, POINT), ("no", (), (), (1, ())))
        self.assertEqual(same_shape(chain(2), antichain(2)), ("no", ((0, "up"),), (), (1, ())))
        self.assertEqual(same_shape(CROWN, CROWN_TURNED), ("yes", (), (), (2, 3, 0, 1)))
        self.assertEqual(same_shape(CROWN, antichain(4)), ("no", (), (), (2, ((0, 1),))))

    def test_small_and_random_orders(self):
        for first, second in random_pairs() + list(itertools.product(SMALL_ORDERS[::2], SMALL_ORDERS)):
            self.check_answer(first, second, are_alike(core(first), core(second)))

    def test_an_order_and_what_a_striking_row_leaves_of_it(self):
        source = random.Random(102)
        for order in random_orders(40, 8, 103):
            row = random_row(order, source, source.randint(0, 4))
            self.check_answer(order, shuffled(induced(order, points_left(order, row)), source), True)

    def test_contractible_orders_of_64_points(self):
        source = random.Random(104)
        for order in (chain(64), product(VEE, chain(21)), product(chain(8), chain(8)), on_top(ring(31), POINT)):
            for other in (POINT, shuffled(order, source), chain(64)):
                answer = same_shape(order, other)
                self.assertEqual(answer, ("yes", core_strikes(order), core_strikes(other), (0,)))
                self.assertIs(check_shape(order, other, answer), True)
            self.assertEqual(same_shape(order, CROWN)[::3], ("no", (1, ())))

    def test_cores_with_unlike_numbers_of_points_of_any_sizes(self):
        large = [EMPTY, POINT, ring(4), antichain(9), ring(5), ring(31), ring(32), antichain(63)]
        for first, second in itertools.permutations(large, 2):
            answer = same_shape(first, second)
            self.assertEqual(answer, ("no", (), (), (1, ())))
            self.assertIs(check_shape(first, second, answer), True)

    def test_cores_with_the_same_number_of_points(self):
        for first in (ring(4), product(ring(4), chain(8)), antichain(8)):
            self.assertEqual(same_shape(first, antichain(8))[0], "yes" if first == antichain(8) else "no")
        for first, second in (
            (antichain(9), antichain(9)),
            (antichain(10), ring(5)),
            (ring(5), ring(5)),
            (ring(32), antichain(64)),
            (beside(antichain(8), chain(20)), antichain(9)),
            (product(ring(5), chain(6)), antichain(10)),
        ):
            with self.assertRaises(TooLarge):
                same_shape(first, second)

    def test_of_one_shape_as_the_words_say(self):
        # Maps f and g such that both ways there and back are led into the identities.
        for first, second in ONE_SHAPE[1:4] + OTHER_SHAPES[1:3]:
            expected = (first, second) in ONE_SHAPE
            self.assertIs(has_maps_to_and_fro(first, second), expected)
            self.assertEqual(same_shape(first, second)[0] == "yes", expected)


def has_maps_to_and_fro(first, second):
    one = maps_led_into_identity(first)
    other = maps_led_into_identity(second)
    for f in reference.maps_by_trying(first, second):
        for g in reference.maps_by_trying(second, first):
            if compose(f, g) in one and compose(g, f) in other:
                return True
    return False


def maps_led_into_identity(order):
    rows = reference.maps_by_trying(order, order)
    reached = [identity_map(order)]
    for row in reached:
        reached.extend([other for other in rows if other not in reached and check_fence(order, order, (row, other))])
    return reached


class TestCheckShapeYes(unittest.TestCase):
    def test_other_striking_rows(self):
        source = random.Random(105)
        for order in random_orders(40, 8, 106):
            other = shuffled(order, source)
            for length in (0, 1, 3, None):
                a = random_row(order, source, length)
                low = induced(order, points_left(order, a))
                for b in (random_row(other, source, len(a)), core_strikes(other), ()):
                    high = induced(other, points_left(other, b))
                    for row in [tuple(range(low[0])), tuple(range(high[0]))] + renamings(low, high)[-2:]:
                        expected = row in renamings(low, high)
                        self.assertIs(check_shape(order, other, ("yes", a, b, row)), expected)

    def test_rows_that_are_not_finished(self):
        self.assertIs(check_shape(VEE, VEE, ("yes", (), (), (0, 2, 1))), True)
        self.assertIs(check_shape(VEE, WEDGE, ("yes", ((1, "down"),), ((0, "up"),), (0, 1))), True)
        self.assertIs(check_shape(VEE, WEDGE, ("yes", ((1, "down"),), ((0, "up"),), (1, 0))), False)
        self.assertIs(check_shape(VEE, WEDGE, ("yes", (), (), (0, 1, 2))), False)
        self.assertIs(check_shape(VEE, WEDGE, ("yes", ((1, "down"), (2, "down")), ((1, "up"), (2, "down")), (0,))), True)
        self.assertIs(check_shape(chain(64), chain(64), ("yes", (), (), tuple(range(64)))), True)
        self.assertIs(check_shape(chain(63), chain(64), ("yes", (), ((7, "up"),), tuple(range(63)))), True)

    def test_rows_that_are_no_striking_rows(self):
        good = ((1, "down"), (0, "up"))
        bad = (
            ((1, "up"), (0, "up")),
            ((0, "up"), (1, "down")),
            ((1, "down"), (1, "down")),
            ((1, "down"), (0, "up"), (2, "down")),
            ((1, "above"), (0, "up")),
            ((1, "below"), (0, "below")),
            ((1, "down"), (3, "up")),
            ((1, "down"), (-3, "up")),
            ((1, "down"), (HUGE, "up")),
            ((1, "down"), (-HUGE, "up")),
            ((1, "down", 0), (0, "up")),
            ((1,), (0, "up")),
            ("down", (0, "up")),
            (("down", 1), (0, "up")),
            ((None, "down"), (0, "up")),
            (((1,), "down"), (0, "up")),
            ((1, None), (0, "up")),
            ((1, ("down",)), (0, "up")),
            ((1, "down"), None),
            ((1, "down"), 0),
            "down",
            None,
            0,
        )
        self.assertIs(check_shape(VEE, VEE, ("yes", good, good, (0,))), True)
        self.assertIs(check_shape(VEE, CROWN, ("no", good, (), (1, ()))), True)
        self.assertIs(check_shape(CROWN, VEE, ("no", (), good, (1, ()))), True)
        for row in bad:
            for answer in (("yes", good, row, (0,)), ("yes", row, good, (0,)), ("yes", row, row, (0,))):
                self.assertIs(check_shape(VEE, VEE, answer), False, answer)
            self.assertIs(check_shape(VEE, CROWN, ("no", row, (), (1, ()))), False, row)
            self.assertIs(check_shape(CROWN, VEE, ("no", (), row, (1, ()))), False, row)

    def test_renamings_that_are_none(self):
        self.assertIs(check_shape(CROWN, CROWN, ("yes", (), (), (1, 0, 2, 3))), True)
        for row in ((2, 3, 0, 1), (0, 2, 1, 3), (0, 0, 2, 3), (0, 1, 2), (0, 1, 2, 3, 4), (0, 1, 2, 4), (0, 1, 2, -1), ()):
            self.assertIs(check_shape(CROWN, CROWN, ("yes", (), (), row)), False)
        for value in STRANGE_VALUES:
            self.assertIs(check_shape(CROWN, CROWN, ("yes", (), (), value)), False)

    def test_an_answer_of_other_orders(self):
        answer = same_shape(CROWN, CROWN_WITH_TAIL)
        self.assertIs(check_shape(CROWN, CROWN_WITH_TAIL, answer), True)
        self.assertIs(check_shape(CROWN_WITH_TAIL, CROWN, answer), False)
        self.assertIs(check_shape(CROWN, VEE, answer), False)


class TestCheckShapeNo(unittest.TestCase):
    def test_other_finished_rows(self):
        source = random.Random(107)
        for first, second in random_pairs() + OTHER_SHAPES:
            answer = same_shape(first, second)
            for _ in range(3):
                a = random_row(first, source)
                b = random_row(second, source)
                self.assertIs(check_shape(first, second, ("no", a, b, (1, ()))), core(first)[0] != core(second)[0])
                if answer[0] == "no":
                    self.assertIs(check_shape(first, second, ("no", a, b, answer[3])), True)

    def test_rows_that_are_not_finished(self):
        for first, second in random_pairs() + OTHER_SHAPES:
            a, b = core_strikes(first), core_strikes(second)
            for k in range(len(a)):
                self.assertIs(check_shape(first, second, ("no", a[:k], b, (1, ()))), False)
                self.assertIs(check_shape(second, first, ("no", b, a[:k], (1, ()))), False)
        self.assertIs(check_shape(chain(2), chain(3), ("no", (), (), (1, ()))), False)

    def test_tests_with_equal_counts(self):
        first, second = CROWN, antichain(4)
        for test in (EMPTY, POINT):
            self.assertIs(check_shape(first, second, ("no", (), (), test)), False)
        for test in (antichain(2), antichain(8)):
            self.assertIs(check_shape(first, second, ("no", (), (), test)), False)
        for test in (chain(2), chain(8), VEE, CROWN, (5, ((3, 1),))):
            self.assertIs(check_shape(first, second, ("no", (), (), test)), True)
        self.assertIs(check_shape(CROWN, ring(3), ("no", (), (), antichain(8))), True)
        self.assertIs(check_shape(CROWN, ring(3), ("no", (), (), EMPTY)), False)

    def test_tests_that_are_no_orders(self):
        for test in (
            (2, ((0, 1), (1, 0))),
            (2, ((0, 1), (0, 1))),
            (3, ((0, 1), (1, 2))),
            (2, ((0, 2),)),
            (1, ((0, 0),)),
            (-1, ()),
            (65, ()),
            (HUGE, ()),
            (1, ((),)),
            (1, (), ()),
            (1,),
            (1, None),
            ((), 1),
        ) + STRANGE_VALUES:
            self.assertIs(check_shape(CROWN, ring(3), ("no", (), (), test)), False, test)

    def test_tests_of_more_than_8_points(self):
        self.assertIs(check_shape(CROWN, antichain(4), ("no", (), (), chain(8))), True)
        self.assertIs(check_shape(CROWN, antichain(4), ("no", (), (), chain(9))), False)
        self.assertIs(check_shape(CROWN, antichain(4), ("no", (), (), chain(64))), False)
        self.assertIs(check_shape(CROWN, ring(3), ("no", (), (), antichain(9))), False)

    def test_what_is_left_of_more_than_16_points(self):
        self.assertIs(check_shape(antichain(16), antichain(15), ("no", (), (), antichain(2))), True)
        self.assertIs(check_shape(antichain(16), ring(8), ("no", (), (), chain(2))), True)
        self.assertIs(check_shape(antichain(18), ring(9), ("no", (), (), chain(2))), False)
        for large in (17, 18, 64):
            self.assertIs(check_shape(antichain(large), POINT, ("no", (), (), antichain(2))), False)
            self.assertIs(check_shape(POINT, antichain(large), ("no", (), (), antichain(2))), False)
            self.assertIs(check_shape(POINT, antichain(large), ("no", (), (), (1, ()))), True)
            self.assertIs(check_shape(antichain(large), POINT, ("no", (), (), (1, ()))), True)
        # What is left counts, not what was there.
        self.assertIs(check_shape(chain(64), CROWN, ("no", core_strikes(chain(64)), (), antichain(2))), True)

    def test_orders_of_one_shape_are_never_told_apart(self):
        for first, second in both_ways(ONE_SHAPE):
            a, b = core_strikes(first), core_strikes(second)
            for test in SMALL_ORDERS + [CROWN]:
                self.assertIs(check_shape(first, second, ("no", a, b, test)), False)

    def test_other_shapes_are_never_shown_to_be_one(self):
        for first, second in OTHER_SHAPES:
            a, b = core_strikes(first), core_strikes(second)
            low, high = core(first), core(second)
            for row in itertools.islice(itertools.product(range(high[0]), repeat=low[0]), 300):
                self.assertIs(check_shape(first, second, ("yes", a, b, row)), False)


class TestCheckShapeForms(unittest.TestCase):
    def test_values_of_any_form(self):
        for value in STRANGE_VALUES:
            for first, second in ((CROWN, CROWN), (CROWN, VEE), (EMPTY, EMPTY)):
                self.assertIs(check_shape(first, second, value), False)
                for word in ("yes", "no"):
                    for answer in ((word,), (word, value), (word, value, value, value), (word, (), (), (), value)):
                        expected = first == EMPTY and answer == ("yes", (), (), ())
                        self.assertIs(check_shape(first, second, answer), expected, answer)

    def test_other_lengths_and_words(self):
        yes = same_shape(CROWN, CROWN_WITH_TAIL)
        no = same_shape(CROWN, VEE)
        for first, second, answer in ((CROWN, CROWN_WITH_TAIL, yes), (CROWN, VEE, no)):
            self.assertIs(check_shape(first=first, second=second, answer=answer), True)
            self.assertIs(check_shape(first, second, answer[:3]), False)
            self.assertIs(check_shape(first, second, answer + ((),)), False)
            for word in ("", "Yes", "No", "yes ", "not", "open", 0, None, (), ("yes",)):
                self.assertIs(check_shape(first, second, (word,) + answer[1:]), False)
            swapped = ("no" if answer[0] == "yes" else "yes",) + answer[1:]
            self.assertIs(check_shape(first, second, swapped), False)


class TestShapeMaps(unittest.TestCase):
    def check_maps(self, first, second, answer):
        _, a, b, renaming = answer
        self.assertIs(check_shape(first, second, answer), True)
        maps = shape_maps(first=first, second=second, answer=answer)
        self.assertTrue(is_plain(maps))
        f, g, fence, other_fence = maps
        self.assertIsNone(check_map(first, second, f))
        self.assertIsNone(check_map(second, first, g))
        low, high = points_left(first, a), points_left(second, b)
        self.assertEqual(f, tuple(high[renaming[low.index(p)]] for p in reference.led_on(first, a)))
        self.assertEqual(g, tuple(low[renaming.index(high.index(q))] for q in reference.led_on(second, b)))
        for order, strikes, rows, there_and_back in (
            (first, a, fence, compose(f, g)),
            (second, b, other_fence, compose(g, f)),
        ):
            self.assertEqual(rows, strike_fence(order, strikes))
            self.assertIs(check_fence(order, order, rows), True)
            self.assertEqual(rows[0], identity_map(order))
            self.assertEqual(rows[-1], there_and_back)
            self.assertEqual(strike_map(order, strikes), there_and_back)

    def test_answers_of_same_shape(self):
        for first, second in both_ways(ONE_SHAPE):
            self.check_maps(first, second, same_shape(first, second))
        for order in (chain(64), product(VEE, chain(21))):
            self.check_maps(order, chain(64), same_shape(order, chain(64)))

    def test_other_answers_that_are_taken(self):
        source = random.Random(108)
        for order in random_orders(40, 7, 109):
            other = shuffled(order, source)
            for length in (0, 2, None):
                a = random_row(order, source, length)
                b = random_row(other, source, len(a))
                low = induced(order, points_left(order, a))
                high = induced(other, points_left(other, b))
                for renaming in renamings(low, high)[-1:]:
                    self.check_maps(order, other, ("yes", a, b, renaming))

    def test_in_full(self):
        answer = ("yes", ((1, "down"),), ((0, "up"),), (0, 1))
        expected = ((1, 1, 2), (2, 0, 2), ((0, 1, 2), (0, 0, 2)), ((0, 1, 2), (2, 1, 2)))
        self.assertEqual(shape_maps(VEE, WEDGE, answer), expected)
        self.assertEqual(shape_maps(EMPTY, EMPTY, ("yes", (), (), ())), ((), (), ((),), ((),)))
        turned = shape_maps(antichain(3), antichain(3), ("yes", (), (), (1, 2, 0)))
        self.assertEqual(turned, ((1, 2, 0), (2, 0, 1), ((0, 1, 2),), ((0, 1, 2),)))

    def test_not_taken(self):
        for first, second in both_ways(OTHER_SHAPES):
            answer = same_shape(first, second)
            self.assertIs(check_shape(first, second, answer), True)
            self.assert_not_taken(first, second, answer)
            self.assert_not_taken(first, second, ("yes",) + answer[1:])
        self.assert_not_taken(CROWN, CROWN, ("yes", (), (), (0, 2, 1, 3)))
        self.assert_not_taken(CROWN, CROWN, ("yes", (), (), (0, 1, 2, 3), ()))
        self.assert_not_taken(CROWN, CROWN, ("yes", ((0, "up"),), (), (0, 1, 2)))
        self.assert_not_taken(antichain(64), antichain(9), ("no", (), (), chain(64)))
        # This "no" is taken, but shows no maps.
        self.assert_not_taken(antichain(64), antichain(9), ("no", (), (), (1, ())))

    def test_values_of_any_form(self):
        for value in STRANGE_VALUES:
            self.assert_not_taken(CROWN, CROWN, value)
            for word in ("yes", "no"):
                for answer in ((word, value), (word, (), (), value), (word, value, (), (0, 1, 2, 3)), (word, (), value, ())):
                    if answer != ("yes", (), (), (0, 1, 2, 3)):
                        self.assert_not_taken(CROWN, CROWN, answer)

    def assert_not_taken(self, first, second, answer):
        with self.assertRaises(NotTaken):
            shape_maps(first, second, answer)


class TestAllOrders(unittest.TestCase):
    """[29]"""

    PAIRS = list(itertools.product(random_orders(6, 4, 110) + [CROWN, EMPTY], random_orders(6, 3, 111) + [POINT]))

    def assert_one_shape(self, first, second):
        answer = same_shape(first, second)
        self.assertEqual(answer[0], "yes")
        self.assertIs(check_shape(first, second, answer), True)

    def test_beside_and_product(self):
        for first, second in self.PAIRS:
            for build in (beside, product):
                of_cores = build(core(first), core(second))
                if of_cores[0] <= 8:
                    self.assertTrue(are_alike(core(build(first, second)), of_cores))
                    self.assert_one_shape(build(first, second), of_cores)

    def test_on_top(self):
        for first, second in self.PAIRS:
            if first[0] and second[0]:
                one_is_contractible = len(core_points(first)) == 1 or len(core_points(second)) == 1
                self.assertEqual(same_shape(on_top(first, second), POINT)[0] == "yes", one_is_contractible)

    def test_opposite(self):
        for order in random_orders(30, 7, 112) + [CROWN, ring(3)]:
            self.assertTrue(are_alike(core(opposite(order)), opposite(core(order))))
            self.assert_one_shape(opposite(order), opposite(core(order)))

    def test_maps_near_the_identity(self):
        for order in SMALL_ORDERS + [CROWN, CROWN_WITH_TAIL]:
            for row in reference.maps_by_trying(order, order):
                if compose(row, row) == row and check_fence(order, order, (row, identity_map(order))):
                    self.assert_one_shape(order, induced(order, tuple(sorted(set(row)))))
