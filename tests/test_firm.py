"""[30], [31]: firm parts, and the papers for them."""

import random
import unittest

from strikecore.building import product
from strikecore.cores import core_points, core_strikes, is_contractible, strike_fence
from strikecore.firm import check_firm, firm
from strikecore.maps import identity_map
from strikecore.steps import check_fence
from strikecore.strikes import points_left
from tests import reference
from tests.reference import CROWN, EMPTY, HUGE, POINT, SMALL_ORDERS, STRANGE_VALUES, VEE, WEDGE
from tests.reference import antichain, chain, is_plain, left_by, random_orders, ring, strikes_of, subsets

ORDERS = SMALL_ORDERS + [CROWN, (5, ((0, 2), (0, 3), (0, 4), (1, 2), (1, 3), (1, 4), (2, 4), (3, 4)))]
ORDERS += random_orders(25, 6, 121, smallest=3)


def strikes_outside(order, points, part):
    return [strike for strike in strikes_of(order, points) if strike[0] not in part]


def expected_firm(order, part):
    """[31], word by word."""
    row = ()
    points = left_by(order, row)
    while strikes_outside(order, points, part):
        row += (strikes_outside(order, points, part)[0],)
        points = left_by(order, row)
    return ("firm" if points == part else "not", row)


def random_row_outside(order, part, source, length=None):
    row = ()
    points = left_by(order, row)
    while strikes_outside(order, points, part) and len(row) != length:
        row += (source.choice(strikes_outside(order, points, part)),)
        points = left_by(order, row)
    return row


class TestFirm(unittest.TestCase):
    def test_examples(self):
        self.assertEqual(firm((3, ((0, 1), (0, 2), (1, 2))), (0, 2)), ("firm", ((1, "down"),)))
        self.assertEqual(firm(CROWN, (0, 1, 2)), ("not", ()))

    def test_some(self):
        self.assertEqual(firm(VEE, (1, 2)), ("not", ()))
        self.assertEqual(firm(VEE, (0,)), ("firm", ((1, "down"), (2, "down"))))
        self.assertEqual(firm(order=VEE, part=(1,)), ("firm", ((2, "down"), (0, "up"))))
        self.assertEqual(firm(WEDGE, (0, 2)), ("firm", ((1, "up"),)))
        # Striking 2 lets 0 be struck, ahead of 3.
        expected = ("firm", ((2, "down"), (0, "up"), (3, "up")))
        self.assertEqual(firm((4, ((0, 1), (0, 2), (3, 1))), (1,)), expected)

    def test_down_comes_ahead_of_up(self):
        self.assertEqual(firm(chain(3), (0, 2))[1], ((1, "down"),))
        self.assertEqual(firm(chain(3), (2,))[1], ((0, "up"), (1, "up")))
        self.assertEqual(firm(chain(3), (1,))[1], ((0, "up"), (2, "down")))

    def test_the_empty_part(self):
        self.assertEqual(firm(EMPTY, ()), ("firm", ()))
        self.assertEqual(firm(POINT, ()), ("not", ()))
        for order in ORDERS[1:]:
            self.assertEqual(firm(order, ()), ("not", core_strikes(order)))

    def test_the_part_of_all_points(self):
        for order in ORDERS + [chain(64), antichain(64), ring(32)]:
            self.assertEqual(firm(order, tuple(range(order[0]))), ("firm", ()))

    def test_against_the_words(self):
        seen = set()
        for order in ORDERS:
            for part in subsets(order[0]):
                answer = firm(order, part)
                self.assertEqual(answer, expected_firm(order, part))
                self.assertTrue(is_plain(answer))
                seen.add(answer[0])
        self.assertEqual(seen, {"firm", "not"})

    def test_the_points_of_a_core_are_firm(self):
        for order in ORDERS:
            self.assertEqual(firm(order, core_points(order))[0], "firm")

    def test_firm_if_and_only_if_a_fence_leads_there(self):
        for order in SMALL_ORDERS + [CROWN, reference.all_orders(4)[77], reference.all_orders(4)[150]]:
            for part in subsets(order[0]):
                self.assertEqual(firm(order, part)[0] == "firm", has_fence_to(order, part))

    def test_whatever_row_is_begun_with_firm_parts_are_left(self):
        source = random.Random(122)
        for order in ORDERS:
            for part in subsets(order[0])[::3]:
                row = random_row_outside(order, part, source)
                self.assertEqual(left_by(order, row) == part, firm(order, part)[0] == "firm")

    def test_the_fence_of_a_firm_part(self):
        for order in ORDERS:
            for part in subsets(order[0])[::3]:
                word, strikes = firm(order, part)
                rows = strike_fence(order, strikes)
                self.assertIs(check_fence(order, order, rows), True)
                self.assertTrue(all(row[x] == x for row in rows for x in part))
                self.assertEqual(tuple(sorted(set(rows[-1]))) == part, word == "firm")

    def test_64_points(self):
        word, strikes = firm(chain(64), (5, 60))
        self.assertEqual((word, points_left(chain(64), strikes)), ("firm", (5, 60)))
        self.assertEqual(firm(antichain(64), tuple(range(63))), ("not", ()))
        grid = product(chain(8), chain(8))
        self.assertEqual(firm(grid, (0, 63))[0], "firm")
        self.assertEqual(firm(grid, (1, 8))[0], "not")


def has_fence_to(order, part):
    """Goes along fences of maps that leave the part in place, from the identity."""
    rows = [row for row in reference.maps_by_trying(order, order) if all(row[x] == x for x in part)]
    reached = [identity_map(order)]
    for row in reached:
        reached.extend([other for other in rows if other not in reached and check_fence(order, order, (row, other))])
    return any(tuple(sorted(set(row))) == part for row in reached)


class TestCheckFirm(unittest.TestCase):
    def test_answers_of_firm(self):
        for order in ORDERS:
            for part in subsets(order[0]):
                self.assertIs(check_firm(order, part, firm(order, part)), True)
        for order, part in ((chain(64), (5, 60)), (antichain(64), ()), (ring(32), tuple(range(60)))):
            self.assertIs(check_firm(order=order, part=part, answer=firm(order, part)), True)

    def test_the_other_word(self):
        for order in ORDERS:
            for part in subsets(order[0]):
                word, strikes = firm(order, part)
                self.assertIs(check_firm(order, part, ("not" if word == "firm" else "firm", strikes)), False)

    def test_other_rows(self):
        source = random.Random(123)
        for order in ORDERS:
            for part in subsets(order[0])[::2]:
                for length in (None, None, 0, 1, 2):
                    row = random_row_outside(order, part, source, length)
                    points = left_by(order, row)
                    stuck = points != part and not strikes_outside(order, points, part)
                    self.assertIs(check_firm(order, part, ("firm", row)), points == part)
                    self.assertIs(check_firm(order, part, ("not", row)), stuck)

    def test_rows_that_strike_a_point_of_the_part(self):
        self.assertIs(check_firm(chain(3), (0, 1), ("firm", ((2, "down"),))), True)
        self.assertIs(check_firm(chain(3), (0, 1), ("firm", ((1, "down"),))), False)
        self.assertIs(check_firm(chain(3), (0, 1), ("firm", ((2, "down"), (1, "down")))), False)
        self.assertIs(check_firm(chain(3), (0, 1), ("not", ((0, "up"), (1, "up")))), False)
        # 0 and 1 are left, and 0 belongs to the part; but 2 was struck, which does too.
        self.assertIs(check_firm(VEE, (1, 2), ("not", ())), True)
        self.assertIs(check_firm(VEE, (1, 2), ("not", ((1, "down"), (0, "up")))), False)
        self.assertIs(check_firm(VEE, (1, 2), ("not", ((1, "down"),))), False)
        self.assertIs(check_firm((4, ((0, 1), (0, 2), (0, 3))), (1, 2, 3), ("not", ((3, "down"),))), False)
        self.assertIs(check_firm((4, ((0, 1), (0, 2), (0, 3))), (1, 2), ("not", ((3, "down"),))), True)

    def test_rows_that_leave_too_much(self):
        self.assertIs(check_firm(chain(3), (0,), ("firm", ((1, "down"),))), False)
        self.assertIs(check_firm(chain(3), (0,), ("not", ((1, "down"),))), False)
        self.assertIs(check_firm(chain(3), (0,), ("firm", ())), False)
        self.assertIs(check_firm(CROWN, (0, 1, 2), ("firm", ())), False)
        self.assertIs(check_firm(VEE, (1, 2), ("firm", ())), False)

    def test_a_part_that_is_left_is_not_stuck(self):
        self.assertIs(check_firm(CROWN, (0, 1, 2, 3), ("not", ())), False)
        self.assertIs(check_firm(CROWN, (0, 1, 2, 3), ("firm", ())), True)
        self.assertIs(check_firm(EMPTY, (), ("firm", ())), True)
        self.assertIs(check_firm(EMPTY, (), ("not", ())), False)
        self.assertIs(check_firm(POINT, (), ("not", ())), True)
        self.assertIs(check_firm(POINT, (), ("firm", ())), False)

    def test_rows_that_are_no_striking_rows(self):
        for strikes in (
            ((1, "sideways"),),
            ((1, "below"),),
            ((1, "above"),),
            ((1, "down"), (1, "down")),
            ((1, "down"), (3, "down")),
            ((1, "down"), (-1, "down")),
            ((1, "down"), (HUGE, "up")),
            ((1, "down", "up"),),
            ((1,),),
            ("down",),
            (1, "down"),
            ((None, "down"),),
            (("1", "down"),),
            ((1, 0),),
            ((1, ()),),
        ):
            for word in ("firm", "not"):
                self.assertIs(check_firm(chain(3), (0, 2), (word, strikes)), False)
        self.assertIs(check_firm(chain(3), (0, 2), ("firm", ((1, "up"),))), True)
        self.assertIs(check_firm(antichain(3), (0, 2), ("firm", ((1, "up"),))), False)

    def test_values_of_any_form(self):
        for value in STRANGE_VALUES:
            self.assertIs(check_firm(CROWN, (0, 1), value), False)
            for word in ("firm", "not", "yes", value):
                self.assertIs(check_firm(CROWN, (0, 1), (word, value)), word == "not" and value == ())
                self.assertIs(check_firm(CROWN, (0, 1), (word, (value,))), False)
                self.assertIs(check_firm(CROWN, (0, 1), (word, ((value, "down"),))), False)
                self.assertIs(check_firm(VEE, (0, 2), (word, ((1, value),))), False)
                self.assertIs(check_firm(CROWN, (0, 1), (word, (), value)), False)
            self.assertIs(check_firm(CROWN, (0, 1), ("not",)), False)
        self.assertIs(check_firm(CROWN, (0, 1), ("not", (((0, "up"),) * 19999))), False)

    def test_firm_and_contractible(self):
        for order in ORDERS:
            points = [x for x in range(order[0]) if firm(order, (x,))[0] == "firm"]
            self.assertEqual(bool(points), is_contractible(order))
