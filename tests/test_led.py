"""[32] to [36]: maps led into one another, and the papers for it."""

import itertools
import random
import unittest

from strikecore.building import beside, on_top, product
from strikecore.cores import core, core_strikes, is_contractible
from strikecore.errors import TooLarge
from strikecore.led import check_led, core_map, led, list_piece
from strikecore.maps import all_maps, check_map, identity_map
from strikecore.orders import is_connected
from strikecore.steps import apply_steps, check_fence
from strikecore.strikes import is_core, points_left
from tests import reference
from tests.reference import CROWN, EMPTY, HUGE, POINT, SMALL_ORDERS, STRANGE_VALUES, VEE, WEDGE
from tests.reference import antichain, chain, is_plain, map_left, random_orders, random_row, ring
from tests.test_maps import MAPS_20000, MAPS_20001, OTHER_20000

CROWN_WITH_TAIL = (5, ((0, 2), (0, 3), (0, 4), (1, 2), (1, 3), (1, 4), (2, 4)))
PAIRS = list(zip(random_orders(25, 4, 131), random_orders(25, 5, 132)))
PAIRS += [(CROWN, CROWN), (CROWN, CROWN_WITH_TAIL), (CROWN_WITH_TAIL, CROWN), (antichain(2), beside(VEE, CROWN))]
PAIRS += [(VEE, antichain(2)), (antichain(2), antichain(3)), (EMPTY, CROWN), (EMPTY, EMPTY), (beside(VEE, chain(2)), VEE)]
FOUR_CHAINS = beside(beside(chain(4), chain(4)), beside(chain(4), chain(4)))

# From five points to a ring of eight and one point more: 32768 maps go to the ring alone.
RING_AND_POINT = beside(ring(4), POINT)


def some_maps(first, second, many, seed):
    rows = reference.maps_by_trying(first, second)
    return random.Random(seed).sample(rows, min(many, len(rows)))


def fence_pieces(first, second):
    """For each rising map the number of its piece, found along fences."""
    rows = reference.maps_by_trying(first, second)
    numbers = {}
    for row in rows:
        if row not in numbers:
            reached = [row]
            for present in reached:
                numbers[present] = row
                near = [other for other in rows if check_fence(first, second, (present, other))]
                reached.extend([other for other in near if other not in reached])
    return numbers


class TestCoreMap(unittest.TestCase):
    def test_example(self):
        self.assertEqual(core_map((2, ((0, 1),)), (2, ((0, 1),)), (0, 1)), (0,))

    def test_between_cores(self):
        for first, second in ((CROWN, CROWN), (antichain(3), CROWN), (ring(3), CROWN), (EMPTY, CROWN), (POINT, ring(3))):
            for row in all_maps(first, second)[::5]:
                self.assertEqual(core_map(first, second, row), row)

    def test_some(self):
        self.assertEqual(core_map(CROWN_WITH_TAIL, CROWN_WITH_TAIL, (0, 1, 2, 3, 4)), (0, 1, 2, 3))
        self.assertEqual(core_map(CROWN_WITH_TAIL, CROWN, (1, 0, 3, 2, 3)), (1, 0, 2, 3))
        self.assertEqual(core_map(first=beside(VEE, POINT), second=antichain(3), row=(2, 2, 2, 1)), (2, 1))
        self.assertEqual(core_map(EMPTY, VEE, ()), ())

    def test_against_the_words(self):
        for first, second in PAIRS:
            for row in some_maps(first, second, 20, 133):
                found = core_map(first, second, row)
                self.assertEqual(found, map_left(first, second, core_strikes(first), core_strikes(second), row))
                self.assertIsNone(check_map(core(first), core(second), found))
                self.assertTrue(is_plain(found))

    def test_contractible_orders(self):
        for first, second in itertools.product((VEE, WEDGE, chain(5), on_top(CROWN, POINT)), repeat=2):
            for row in some_maps(first, second, 5, 134):
                self.assertEqual(core_map(first, second, row), (0,))

    def test_64_points(self):
        self.assertEqual(core_map(chain(64), chain(64), identity_map(chain(64))), (0,))
        self.assertEqual(core_map(ring(32), ring(32), identity_map(ring(32))), identity_map(ring(32)))
        order = product(CROWN, chain(16))
        self.assertEqual(core_map(order, order, identity_map(order)), (0, 1, 2, 3))
        self.assertEqual(core_map(order, CROWN, tuple(x // 16 for x in range(64))), (0, 1, 2, 3))
        self.assertEqual(core_map(beside(chain(32), chain(32)), antichain(64), (5,) * 32 + (63,) * 32), (5, 63))

    def test_led_into_one_another_if_and_only_if_the_core_maps_are(self):
        for first, second in PAIRS:
            if len(reference.maps_by_trying(first, second)) < 150:
                numbers = fence_pieces(first, second)
                core_numbers = fence_pieces(core(first), core(second))
                for row, other in itertools.product(some_maps(first, second, 12, 135), repeat=2):
                    low, high = core_map(first, second, row), core_map(first, second, other)
                    self.assertEqual(numbers[row] == numbers[other], core_numbers[low] == core_numbers[high])


class TestListPiece(unittest.TestCase):
    def test_one_map_alone(self):
        self.assertEqual(list_piece(CROWN, CROWN, (0, 1, 2, 3)), ((0, 1, 2, 3),))
        self.assertEqual(list_piece(ring(32), ring(32), identity_map(ring(32))), (identity_map(ring(32)),))
        self.assertEqual(list_piece(antichain(2), antichain(3), (0, 2)), ((0, 2),))

    def test_the_empty_order(self):
        self.assertEqual(list_piece(EMPTY, CROWN, ()), ((),))
        self.assertEqual(list_piece(EMPTY, EMPTY, ()), ((),))

    def test_in_full(self):
        expected = ((0, 0), (0, 1), (1, 1), (0, 2), (1, 2), (2, 2))
        self.assertEqual(list_piece(first=chain(2), second=chain(3), row=(0, 0)), expected)
        expected = ((1, 2), (0, 2), (2, 2), (1, 1), (0, 1), (0, 0))
        self.assertEqual(list_piece(chain(2), chain(3), (1, 2)), expected)
        expected = ((0, 2), (2, 2), (0, 0), (0, 1), (1, 1))
        self.assertEqual(list_piece(chain(2), VEE, (0, 2)), expected)
        expected = ((2,), (0,), (1,), (3,))
        self.assertEqual(list_piece(POINT, CROWN, (2,)), expected)

    def test_against_a_listing_by_the_words(self):
        for first, second in PAIRS:
            if len(reference.maps_by_trying(first, second)) < 150:
                for row in some_maps(first, second, 3, 136):
                    found = list_piece(first, second, row)
                    self.assertEqual(found, reference.piece(first, second, row))
                    self.assertTrue(is_plain(found))

    def test_a_piece_is_what_fences_lead_to(self):
        for first, second in PAIRS[:12] + PAIRS[25:]:
            if len(reference.maps_by_trying(first, second)) < 150:
                numbers = fence_pieces(first, second)
                for row in some_maps(first, second, 3, 137):
                    expected = sorted(other for other in numbers if numbers[other] == numbers[row])
                    self.assertEqual(sorted(list_piece(first, second, row)), expected)

    def test_20000_maps(self):
        for first, second in (MAPS_20000, OTHER_20000):
            row = (0,) * first[0]
            rows = list_piece(first, second, row)
            self.assertEqual(rows[0], row)
            self.assertEqual(tuple(sorted(rows)), all_maps(first, second))
        # Each chain of 4 points has 5 maps to a chain of 2, each single point has 2.
        rows = list_piece(beside(FOUR_CHAINS, antichain(5)), chain(2), (1,) * 21)
        self.assertEqual(len(rows), 20000)
        self.assertEqual(len(set(rows)), 20000)

    def test_more_than_20000_maps(self):
        for first, second in (
            MAPS_20001,
            (beside(FOUR_CHAINS, antichain(6)), chain(2)),
            (chain(64), chain(64)),
            (antichain(5), RING_AND_POINT),
            (antichain(64), chain(64)),
        ):
            with self.assertRaises(TooLarge):
                list_piece(first, second, (0,) * first[0])

    def test_small_pieces_of_large_orders(self):
        self.assertEqual(list_piece(chain(64), antichain(64), (9,) * 64), ((9,) * 64,))
        self.assertEqual(len(list_piece(chain(64), chain(2), (0,) * 64)), 65)
        self.assertEqual(list_piece(POINT, chain(64), (63,)), tuple((x,) for x in range(63, -1, -1)))


class TestLed(unittest.TestCase):
    def check_steps(self, first, second, start, goal, answer):
        word, steps = answer
        self.assertEqual(word, "led")
        self.assertTrue(is_plain(answer))
        row = start
        for step in steps:
            self.assertTrue(reference.step_is_allowed(first, second, row, step))
            row = reference.after_step(row, step)
        self.assertEqual(row, goal)
        self.assertIs(check_led(first, second, start, goal, answer), True)

    def check_not(self, first, second, start, goal, answer):
        a, b = core_strikes(first), core_strikes(second)
        begin = map_left(first, second, a, b, start)
        piece = tuple(sorted(reference.piece(core(first), core(second), begin)))
        self.assertEqual(answer, ("not", a, b, piece))
        self.assertTrue(is_plain(answer))
        self.assertIs(check_led(first, second, start, goal, answer), True)

    def test_example(self):
        answer = led(CROWN, CROWN, (0, 1, 2, 3), (1, 0, 3, 2))
        self.assertEqual(answer, ("not", (), (), ((0, 1, 2, 3),)))
        self.assertIs(check_led(CROWN, CROWN, (0, 1, 2, 3), (1, 0, 3, 2), answer), True)

    def test_all_pairs_of_some_maps(self):
        words = []
        for first, second in PAIRS:
            if len(reference.maps_by_trying(first, second)) < 150:
                numbers = fence_pieces(first, second)
                for start, goal in itertools.product(some_maps(first, second, 8, 138), repeat=2):
                    answer = led(first=first, second=second, start=start, goal=goal)
                    words.append(answer[0])
                    if numbers[start] == numbers[goal]:
                        self.check_steps(first, second, start, goal, answer)
                    else:
                        self.check_not(first, second, start, goal, answer)
        self.assertGreater(words.count("not"), 100)
        self.assertGreater(words.count("led"), 100)

    def test_start_and_goal_are_equal(self):
        for first, second in PAIRS:
            for row in some_maps(first, second, 4, 139):
                self.check_steps(first, second, row, row, led(first, second, row, row))
                self.assertEqual(led(first, second, row, row), ("led", ()))

    def test_answers_in_full(self):
        order = beside(VEE, POINT)
        expected = ("not", ((1, "down"), (0, "up")), (), ((1, 1),))
        self.assertEqual(led(order, antichain(2), (1, 1, 1, 1), (0, 0, 0, 1)), expected)
        self.assertEqual(led(EMPTY, CROWN, (), ()), ("led", ()))

    def test_round_a_crown(self):
        # Maps to one side of the crown can be led on to the other side, step by step.
        for goal in all_maps(chain(2), ring(8)):
            self.check_steps(chain(2), ring(8), (0, 0), goal, led(chain(2), ring(8), (0, 0), goal))
        twice = (0, 1, 0, 1, 2, 3, 2, 3)
        self.assertEqual(check_map(ring(4), CROWN, twice), None)
        self.check_not(ring(4), CROWN, twice, (0,) * 8, led(ring(4), CROWN, twice, (0,) * 8))
        back = (1, 0, 1, 0, 2, 3, 2, 3)
        self.check_not(ring(4), CROWN, twice, back, led(ring(4), CROWN, twice, back))

    def test_16_points(self):
        order = product(CROWN, chain(4))
        turned = tuple((1, 0, 3, 2)[x // 4] * 4 + x % 4 for x in range(16))
        answer = led(order, order, identity_map(order), turned)
        self.assertEqual(answer, ("not", core_strikes(order), core_strikes(order), ((0, 1, 2, 3),)))
        self.assertIs(check_led(order, order, identity_map(order), turned, answer), True)
        lifted = tuple(x // 4 * 4 + 3 for x in range(16))
        self.check_steps(order, order, lifted, identity_map(order), led(order, order, lifted, identity_map(order)))
        low, high = (0,) * 16, (15,) * 16
        self.check_steps(order, order, low, high, led(order, order, low, high))
        self.check_steps(chain(16), chain(16), low, high, led(chain(16), chain(16), low, high))

    def test_more_than_16_points(self):
        for first, second in ((chain(17), POINT), (POINT, chain(17)), (chain(64), chain(64)), (EMPTY, chain(17))):
            row = (0,) * first[0]
            with self.assertRaises(TooLarge):
                led(first, second, row, row)

    def test_a_goal_within_the_first_20000_maps_and_beyond(self):
        first = antichain(5)
        rows = ring_piece(5, 4, 20004)
        for place in (0, 1, 777, 19998, 19999):
            self.check_steps(first, RING_AND_POINT, rows[0], rows[place], led(first, RING_AND_POINT, rows[0], rows[place]))
        for place in (20000, 20001, 20003):
            with self.assertRaises(TooLarge):
                led(first, RING_AND_POINT, rows[0], rows[place])
        with self.assertRaises(TooLarge):
            led(first, RING_AND_POINT, rows[0], (8,) * 5)
        with self.assertRaises(TooLarge):
            led(first, RING_AND_POINT, rows[0], (0, 0, 0, 0, 8))
        self.assertEqual(led(first, RING_AND_POINT, (8,) * 5, rows[0]), ("not", (), (), ((8,) * 5,)))

    def test_the_last_goal_that_is_met_comes_of_the_same_map_as_the_next_one(self):
        rows = ring_piece(8, 2, 20001)
        second = beside(CROWN, POINT)
        self.check_steps(antichain(8), second, rows[0], rows[19999], led(antichain(8), second, rows[0], rows[19999]))
        with self.assertRaises(TooLarge):
            led(antichain(8), second, rows[0], rows[20000])

    def test_a_large_piece_that_is_complete(self):
        second = beside(on_top(antichain(2), antichain(3)), POINT)
        start, goal = (0,) * 6, (0,) * 5 + (5,)
        answer = led(antichain(6), second, start, goal)
        self.assertEqual(answer, ("not", (), (), tuple(itertools.product(range(5), repeat=6))))
        self.assertIs(check_led(antichain(6), second, start, goal, answer), True)
        self.assertIs(check_led(antichain(6), second, start, (1,) * 6, answer), False)
        self.assertIs(check_led(antichain(6), second, start, goal, answer[:3] + (answer[3][:-1],)), False)

    def test_neighbours_that_stand_far_apart_in_the_piece(self):
        # One map is at most the other, but the small steps to it are as many as the points.
        order = on_top(antichain(2), antichain(6))
        start, goal = (0,) * 7, (2,) * 7
        with self.assertRaises(TooLarge):
            led(antichain(7), order, start, (1,) * 7)
        with self.assertRaises(TooLarge):
            led(antichain(7), order, start, goal)
        self.check_steps(antichain(2), order, start[:2], goal[:2], led(antichain(2), order, start[:2], goal[:2]))

    def test_the_cores_are_counted_and_not_the_orders(self):
        # There are far more than 20000 maps, but the cores have one point.
        self.check_steps(chain(10), chain(10), (0,) * 10, (9,) * 10, led(chain(10), chain(10), (0,) * 10, (9,) * 10))


def ring_piece(points, k, many):
    """The first maps of the piece of so many points in crown(k), as [33] tells."""
    both = ring(k)[1] + tuple((high, low) for low, high in ring(k)[1])
    around = [sorted(other for one, other in both if one == x) for x in range(2 * k)]
    rows = [(0,) * points]
    known = set(rows)
    for row in rows:
        for x in range(points):
            for value in around[row[x]]:
                moved = reference.after_step(row, (x, value))
                if moved not in known:
                    known.add(moved)
                    rows.append(moved)
        if len(rows) >= many:
            return rows
    return rows


class TestCheckLedSteps(unittest.TestCase):
    def test_other_steps_that_are_allowed(self):
        source = random.Random(140)
        for first, second in PAIRS:
            for start in some_maps(first, second, 4, 141):
                row = start
                steps = ()
                for _ in range(8):
                    near = reference.steps_near(first, second, row)
                    if near:
                        steps += (source.choice(near),)
                        row = reference.after_step(row, steps[-1])
                self.assertIs(check_led(first, second, start, row, ("led", steps)), True)
                for goal in some_maps(first, second, 3, 142):
                    self.assertIs(check_led(first, second, start, goal, ("led", steps)), goal == row)
                self.assertIs(check_led(first, second, start, row, ("not", (), (), steps)), False)

    def test_steps_that_are_not_allowed(self):
        start, goal = (0, 0, 0), (0, 1, 2)
        good = ((1, 1), (2, 2))
        self.assertIs(check_led(first=VEE, second=VEE, start=start, goal=goal, answer=("led", good)), True)
        self.assertIs(check_led(VEE, VEE, start, goal, ("led", ((2, 2), (1, 1)))), True)
        self.assertIs(check_led(VEE, VEE, start, goal, ("led", ((2, 1), (2, 0), (2, 2), (1, 1)))), True)
        for steps in (
            ((2, 1), (2, 2), (1, 1)),
            ((1, 1),),
            ((1, 1), (2, 2), (2, 2)),
            ((1, 1), (2, 2), (2, 0)),
            ((1, 1), (2, 2), (3, 0)),
            ((1, 1), (2, 2), (-1, 2)),
            ((0, 1), (1, 1), (2, 2)),
            ((1, 1), (2, 3)),
            ((1, 1), (2, HUGE)),
            ((HUGE, 1), (2, 2)),
            ((-HUGE, 1), (2, 2)),
            ((1, 1), (2, -1)),
            ((1, 1), (2,)),
            ((1, 1), (2, 2, 2)),
            ((1, 1), (2, "2")),
            ((1, 1), ("2", 2)),
            ((1, 1), (None, 2)),
            ((1, 1), (2, (2,))),
            ((1, 1), 2),
            ((1, 1), "22"),
            (),
        ):
            self.assertIs(check_led(VEE, VEE, start, goal, ("led", steps)), False, steps)

    def test_no_steps(self):
        for first, second in PAIRS:
            for start, goal in itertools.product(some_maps(first, second, 3, 143), repeat=2):
                self.assertIs(check_led(first, second, start, goal, ("led", ())), start == goal)

    def test_64_points(self):
        steps = tuple((x, value) for value in range(1, 64) for x in range(63, -1, -1))
        self.assertIs(check_led(chain(64), chain(64), (0,) * 64, (63,) * 64, ("led", steps)), True)
        self.assertIs(check_led(chain(64), chain(64), (0,) * 64, (63,) * 64, ("led", steps[:-1])), False)


class TestCheckLedNot(unittest.TestCase):
    START = (0, 1, 2, 3)
    GOAL = (1, 0, 3, 2)
    GOOD = ("not", (), (), ((0, 1, 2, 3),))

    def check(self, answer, start=START, goal=GOAL):
        return check_led(CROWN, CROWN, start, goal, answer)

    def test_other_striking_rows(self):
        source = random.Random(144)
        taken = 0
        for first, second in PAIRS:
            for start, goal in itertools.product(some_maps(first, second, 3, 145), repeat=2):
                for length in (0, 1, None):
                    a, b = random_row(first, source, length), random_row(second, source, length)
                    low = reference.induced(first, points_left(first, a))
                    high = reference.induced(second, points_left(second, b))
                    if len(reference.maps_by_trying(low, high)) < 60:
                        piece = tuple(sorted(reference.piece(low, high, map_left(first, second, a, b, start))))
                        expected = map_left(first, second, a, b, goal) not in piece
                        self.assertIs(check_led(first, second, start, goal, ("not", a, b, piece)), expected)
                        taken += expected
        self.assertGreater(taken, 30)

    def test_more_than_one_piece_is_taken_as_well(self):
        every = all_maps(CROWN, CROWN)
        piece = tuple(row for row in every if row != self.GOAL)
        self.assertIs(self.check(("not", (), (), piece)), True)
        self.assertIs(self.check(("not", (), (), every)), False)
        self.assertIs(self.check(("not", (), (), tuple(row for row in piece if row != self.START))), False)

    def test_pieces_that_are_not_ascending(self):
        two = ((0, 1, 2, 3), (0, 1, 3, 2))
        self.assertIs(self.check(("not", (), (), two)), True)
        self.assertIs(self.check(("not", (), (), two[::-1])), False)
        self.assertIs(self.check(("not", (), (), two[:1] * 2)), False)
        self.assertIs(self.check(("not", (), (), two + two[1:])), False)
        piece = list_piece(chain(2), beside(CROWN, POINT), (0, 0))
        answer = ("not", (), (), piece)
        self.assertNotEqual(piece, tuple(sorted(piece)))
        self.assertIs(check_led(chain(2), beside(CROWN, POINT), (0, 0), (4, 4), answer), False)
        answer = ("not", (), (), tuple(sorted(piece)))
        self.assertIs(check_led(chain(2), beside(CROWN, POINT), (0, 0), (4, 4), answer), True)

    def test_rows_that_are_no_rising_maps(self):
        for row in (
            (0, 2, 1, 3),
            (2, 3, 0, 1),
            (0, 1, 2),
            (0, 1, 2, 3, 3),
            (0, 1, 2, 4),
            (-1, 1, 2, 3),
            (0, 1, 2, HUGE),
            (0, 1, 2, None),
            (0, 1, 2, "3"),
            (0, 1, 2, (3,)),
            (),
            None,
            3,
            "0123",
        ):
            self.assertIs(self.check(("not", (), (), (row,))), False)
            self.assertIs(self.check(("not", (), (), (row, (0, 1, 2, 3)))), False)
            self.assertIs(self.check(("not", (), (), ((0, 1, 2, 3), row))), False)
        # These stand in the right places, and no small step leads out of them.
        self.assertIs(self.check(("not", (), (), ((0, 0, 1, 1), (0, 1, 2, 3)))), False)
        self.assertIs(self.check(("not", (), (), ((0, 1, 2, 3), (2, 3, 2, 3)))), False)

    def test_pieces_that_lack_a_map(self):
        for first, second, start, goal in (
            (VEE, beside(VEE, POINT), (0, 0, 0), (3, 3, 3)),
            (POINT, beside(CROWN, POINT), (0,), (4,)),
            (CROWN, beside(CROWN, POINT), (0, 0, 0, 0), (4, 4, 4, 4)),
        ):
            piece = tuple(sorted(reference.piece(first, second, start)))
            self.assertIs(check_led(first, second, start, goal, ("not", (), (), piece)), True)
            for k in range(len(piece)):
                answer = ("not", (), (), piece[:k] + piece[k + 1:])
                self.assertIs(check_led(first, second, start, goal, answer), False)
        self.assertIs(self.check(("not", (), (), ())), False)

    def test_the_maps_of_start_and_goal(self):
        self.assertIs(self.check(self.GOOD), True)
        self.assertIs(self.check(self.GOOD, start=self.GOAL), False)
        self.assertIs(self.check(self.GOOD, goal=self.START), False)
        self.assertIs(self.check(self.GOOD, start=(0, 0, 0, 0)), False)
        self.assertIs(self.check(self.GOOD, goal=(0, 0, 0, 0)), True)
        self.assertIs(self.check(("not", (), (), (self.START, self.GOAL))), False)

    def test_rows_that_are_no_striking_rows(self):
        order, start, goal = CROWN_WITH_TAIL, (0, 1, 2, 3, 4), (1, 0, 2, 3, 4)
        good = ((4, "down"),)
        self.assertIs(check_led(order, order, start, goal, ("not", good, good, ((0, 1, 2, 3),))), True)
        for row in (
            ((4, "up"),),
            ((4, "below"),),
            ((4, "down"), (4, "down")),
            ((4, "down"), (0, "up")),
            ((5, "down"),),
            ((-1, "down"),),
            ((HUGE, "down"),),
            ((4,),),
            ((4, "down", ""),),
            (("4", "down"),),
            ((4, None),),
            ("4d",),
            (4, "down"),
            "down",
            None,
            4,
        ):
            self.assertIs(check_led(order, order, start, goal, ("not", good, row, ((0, 1, 2, 3),))), False)
            self.assertIs(check_led(order, order, start, goal, ("not", row, good, ((0, 1, 2, 3),))), False)

    def test_the_rows_tell_what_the_piece_is_between(self):
        order, start, goal = CROWN_WITH_TAIL, (0, 1, 2, 3, 4), (1, 0, 2, 3, 4)
        good = ((4, "down"),)
        for a, b in (((), ()), (good, ()), ((), good)):
            self.assertIs(check_led(order, order, start, goal, ("not", a, b, ((0, 1, 2, 3),))), False)
            low = reference.induced(order, points_left(order, a))
            high = reference.induced(order, points_left(order, b))
            piece = tuple(sorted(reference.piece(low, high, map_left(order, order, a, b, start))))
            self.assertIs(check_led(order, order, start, goal, ("not", a, b, piece)), True)

    def test_64_points(self):
        order = ring(32)
        turned = tuple((x + 1) % 32 + x // 32 * 32 for x in range(64))
        answer = ("not", (), (), (identity_map(order),))
        self.assertIs(check_led(order, order, identity_map(order), turned, answer), True)
        self.assertIs(check_led(order, order, turned, identity_map(order), answer), False)
        self.assertIs(check_led(antichain(64), antichain(64), (0,) * 64, (1,) * 64, ("not", (), (), ((0,) * 64,))), True)

    def test_values_of_any_form(self):
        for value in STRANGE_VALUES:
            self.assertIs(self.check(value), False)
            for word in ("led", "not", "yes", value):
                for answer in (
                    (word,),
                    (word, value),
                    (word, value, value, value),
                    (word, (), (), value),
                    (word, value, (), ((0, 1, 2, 3),)),
                    (word, (), value, ((0, 1, 2, 3),)),
                    (word, (), (), ((0, 1, 2, 3),), value),
                    (word, (), (), ((0, 1, 2, 3), value)),
                    (word, (), (), ((0, 1, 2, value),)),
                    (word, (value,)),
                    (word, ((0, value),)),
                ):
                    self.assertIs(self.check(answer), answer == self.GOOD, answer)

    def test_other_words_and_lengths(self):
        self.assertIs(self.check(("led",) + self.GOOD[1:]), False)
        self.assertIs(self.check(self.GOOD[:3]), False)
        self.assertIs(self.check(self.GOOD + ((),)), False)
        self.assertIs(self.check(("led", (), ())), False)
        self.assertIs(self.check(("led", ()), goal=self.START), True)
        self.assertIs(self.check(("not", ()), goal=self.START), False)
        self.assertIs(self.check(("led ", ()), goal=self.START), False)
        self.assertIs(self.check(("led", (), ()), goal=self.START), False)
        self.assertIs(self.check(("led",), goal=self.START), False)


class TestWhatHolds(unittest.TestCase):
    """[36]"""

    ORDERS = SMALL_ORDERS + [CROWN, CROWN_WITH_TAIL]

    def test_contractible_first_and_connected_second(self):
        for first in (POINT, VEE, WEDGE, chain(3)):
            for second in (POINT, VEE, CROWN, CROWN_WITH_TAIL, chain(4), ring(3)):
                self.assertTrue(is_contractible(first) and is_connected(second))
                self.assert_one_piece(first, second)

    def test_contractible_second(self):
        for second in (POINT, VEE, WEDGE, chain(3)):
            for first in self.ORDERS:
                self.assert_one_piece(first, second)

    def assert_one_piece(self, first, second):
        rows = all_maps(first, second)
        self.assertEqual(tuple(sorted(list_piece(first, second, rows[0]))), rows)
        for goal in rows[::7]:
            answer = led(first, second, rows[0], goal)
            self.assertEqual(answer[0], "led")
            self.assertEqual(apply_steps(first, second, rows[0], answer[1]), goal)

    def test_cores(self):
        for order in self.ORDERS + [ring(3), ring(8), ring(32), antichain(64)]:
            if is_core(order):
                row = identity_map(order)
                self.assertEqual(list_piece(order, order, row), (row,))
