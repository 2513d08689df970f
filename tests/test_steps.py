"""[14] to [16]: small steps and fences."""

import random
import unittest

from strikecore.errors import BadStep, NotAbove
from strikecore.maps import all_maps, at_most, check_map
from strikecore.steps import apply_steps, check_fence, fence_steps, steps_down, steps_up
from tests import reference
from tests.reference import CROWN, EMPTY, HUGE, POINT, STRANGE_VALUES, VEE, antichain, chain, is_plain, step_is_allowed

RANDOM_PAIRS = list(zip(reference.random_orders(40, 4, 21), reference.random_orders(40, 6, 22)))
PAIRS = RANDOM_PAIRS + [(CROWN, CROWN), (VEE, VEE), (chain(3), chain(4)), (CROWN, chain(3)), (VEE, CROWN)]
VEE_AND_MORE = (5, ((0, 1), (0, 2), (0, 3), (0, 4), (1, 3), (2, 3)))


def pairs_of_maps(first, second, many, seed):
    """Some pairs (low, high) of maps, the first at most the second, and some that are not so."""
    rows = all_maps(first, second)
    source = random.Random(seed)
    found = [(low, high) for low in rows for high in rows]
    return source.sample(found, min(many, len(found)))


def place_of_fault(first, second, row, steps):
    try:
        apply_steps(first, second, row, steps)
    except BadStep as error:
        return error.at
    return None


def expected_up(first, second, low, high):
    """The steps of [15], word by word."""
    covers = reference.covers(second)
    row = list(low)
    steps = []
    while tuple(row) != high:
        unlike = [x for x in range(first[0]) if row[x] != high[x]]
        tops = [x for x in unlike if not any((x, y) in first[1] for y in unlike)]
        x = min(tops)
        values = [q for p, q in covers if p == row[x] and reference.is_at_most(second, q, high[x])]
        row[x] = min(values)
        steps.append((x, row[x]))
    return tuple(steps)


class TestApplySteps(unittest.TestCase):
    def test_steps_up_and_down(self):
        self.assertEqual(apply_steps(VEE, VEE, (0, 0, 0), ()), (0, 0, 0))
        self.assertEqual(apply_steps(VEE, VEE, (0, 0, 0), ((1, 2),)), (0, 2, 0))
        self.assertEqual(apply_steps(VEE, VEE, (0, 1, 2), ((2, 0),)), (0, 1, 0))
        self.assertEqual(apply_steps(VEE, VEE, (1, 1, 1), ((0, 0), (2, 0), (2, 2), (1, 0))), (0, 0, 2))
        moved = apply_steps(first=chain(2), second=chain(3), row=(0, 0), steps=((1, 1), (0, 1), (1, 2), (0, 0)))
        self.assertEqual(moved, (0, 2))
        self.assertEqual(apply_steps(EMPTY, CROWN, (), ()), ())

    def test_every_single_step(self):
        for first, second in PAIRS:
            for row in all_maps(first, second)[::7]:
                for x in range(-1, first[0] + 1):
                    for value in range(-1, second[0] + 1):
                        allowed = step_is_allowed(first, second, row, (x, value))
                        self.assertEqual(place_of_fault(first, second, row, ((x, value),)), None if allowed else 0)
                        if allowed:
                            moved = apply_steps(first, second, row, ((x, value),))
                            self.assertEqual(moved, row[:x] + (value,) + row[x + 1:])

    def test_the_place_of_the_first_step_that_is_not_allowed(self):
        good = ((1, 1), (2, 2), (1, 0))
        bad = (
            (-1, 0),
            (3, 0),
            (HUGE, 0),
            (-HUGE, 0),
            (1, -1),
            (1, 3),
            (1, HUGE),
            (1, -HUGE),
            (2, 1),
            (0, 1),
            (0, 0),
        )
        self.assertEqual(place_of_fault(VEE, VEE, (0, 0, 0), good), None)
        self.assertEqual(place_of_fault(VEE, VEE, (0, 0, 0), good + ((2, 2),)), 3)
        for step in bad:
            self.assertEqual(place_of_fault(VEE, VEE, (0, 0, 0), good + (step,)), 3, step)
            self.assertEqual(place_of_fault(VEE, VEE, (0, 0, 0), good[:2] + (step, (9, 9)) + good), 2, step)

    def test_values_that_neither_cover_nor_are_covered(self):
        self.assertEqual(place_of_fault(POINT, chain(3), (0,), ((0, 2),)), 0)
        self.assertEqual(place_of_fault(POINT, chain(3), (2,), ((0, 0),)), 0)
        self.assertEqual(place_of_fault(POINT, chain(3), (1,), ((0, 1),)), 0)
        self.assertEqual(place_of_fault(POINT, CROWN, (0,), ((0, 2), (0, 1), (0, 3), (0, 2))), 3)

    def test_maps_that_would_not_rise(self):
        self.assertEqual(place_of_fault(chain(2), chain(2), (0, 0), ((0, 1),)), 0)
        self.assertEqual(place_of_fault(chain(2), chain(2), (1, 1), ((1, 0),)), 0)
        self.assertEqual(place_of_fault(chain(3), chain(3), (0, 1, 2), ((0, 1), (2, 1), (1, 0))), 2)

    def test_64_points(self):
        row = (0,) * 64
        steps = tuple((x, value) for value in range(1, 64) for x in range(63, -1, -1))
        self.assertEqual(apply_steps(chain(64), chain(64), row, steps), (63,) * 64)
        self.assertEqual(place_of_fault(chain(64), chain(64), row, steps + ((5, 63),)), len(steps))

    def test_the_row_is_not_modified(self):
        row = (0, 0, 0)
        apply_steps(VEE, VEE, row, ((1, 1),))
        self.assertEqual(row, (0, 0, 0))
        self.assertTrue(is_plain(apply_steps(VEE, VEE, row, ((1, 1),))))


class TestStepsUp(unittest.TestCase):
    def test_example(self):
        self.assertEqual(steps_up(VEE, VEE, (0, 0, 0), (0, 1, 2)), ((1, 1), (2, 2)))
        self.assertEqual(steps_down(VEE, VEE, (0, 1, 2), (0, 0, 0)), ((2, 0), (1, 0)))

    def test_equal_maps(self):
        for first, second in PAIRS:
            for row in all_maps(first, second)[::9]:
                self.assertEqual(steps_up(first, second, row, row), ())
                self.assertEqual(steps_down(first, second, row, row), ())

    def test_upper_points_go_first(self):
        self.assertEqual(steps_up(chain(2), chain(3), (0, 0), (1, 2)), ((1, 1), (1, 2), (0, 1)))
        self.assertEqual(steps_up((2, ((1, 0),)), chain(3), (0, 0), (2, 2)), ((0, 1), (0, 2), (1, 1), (1, 2)))
        self.assertEqual(steps_down(chain(2), chain(3), (1, 2), (0, 0)), ((0, 0), (1, 1), (1, 0)))

    def test_the_least_way_up_is_taken(self):
        # From 0 up to 3 there are the ways over 1 and over 2.
        self.assertEqual(steps_up(POINT, VEE_AND_MORE, (0,), (3,)), ((0, 1), (0, 3)))
        self.assertEqual(steps_down(POINT, VEE_AND_MORE, (3,), (0,)), ((0, 1), (0, 0)))
        self.assertEqual(steps_up(POINT, VEE_AND_MORE, (0,), (4,)), ((0, 4),))
        self.assertEqual(steps_up(POINT, VEE_AND_MORE, (0,), (2,)), ((0, 2),))

    def test_against_the_words(self):
        for first, second in PAIRS:
            for low, high in pairs_of_maps(first, second, 120, 23):
                if all(reference.is_at_most(second, x, y) for x, y in zip(low, high)):
                    up = steps_up(first=first, second=second, low=low, high=high)
                    down = steps_down(first=first, second=second, high=high, low=low)
                    self.assertEqual(up, expected_up(first, second, low, high))
                    self.assertTrue(is_plain(up) and is_plain(down))
                    self.check_walk(first, second, low, high, up, down)
                else:
                    with self.assertRaises(NotAbove):
                        steps_up(first, second, low, high)
                    with self.assertRaises(NotAbove):
                        steps_down(first, second, high, low)

    def check_walk(self, first, second, low, high, up, down):
        """up leads from low to high by allowed steps, and down is its way back."""
        rows = [low]
        for step in up:
            self.assertTrue(step_is_allowed(first, second, rows[-1], step))
            rows.append(rows[-1][:step[0]] + (step[1],) + rows[-1][step[0] + 1:])
        self.assertEqual(rows[-1], high)
        self.assertEqual(apply_steps(first, second, low, up), high)
        self.assertEqual(len(down), len(up))
        for step in down:
            self.assertEqual(rows.pop(), high)
            self.assertTrue(step_is_allowed(first, second, high, step))
            high = high[:step[0]] + (step[1],) + high[step[0] + 1:]
        self.assertEqual(high, low)

    def test_not_above(self):
        for low, high in (((0, 1, 0), (0, 0, 0)), ((0, 1, 0), (0, 2, 0)), ((0, 1, 0), (0, 0, 1)), ((1, 1, 1), (0, 1, 1))):
            with self.assertRaises(NotAbove):
                steps_up(VEE, VEE, low, high)
            with self.assertRaises(NotAbove):
                steps_down(VEE, VEE, high, low)
        with self.assertRaises(NotAbove):
            steps_up(POINT, antichain(2), (0,), (1,))

    def test_64_points(self):
        up = steps_up(chain(64), chain(64), (0,) * 64, (63,) * 64)
        self.assertEqual(len(up), 64 * 63)
        self.assertEqual(up[:64], tuple((63, value) for value in range(1, 64)) + ((62, 1),))
        down = steps_down(chain(64), chain(64), (63,) * 64, (0,) * 64)
        self.assertEqual(down[:64], tuple((0, value) for value in range(62, -1, -1)) + ((1, 62),))

    def test_no_points(self):
        self.assertEqual(steps_up(EMPTY, CROWN, (), ()), ())
        self.assertEqual(steps_down(EMPTY, EMPTY, (), ()), ())


class TestFences(unittest.TestCase):
    def test_fences(self):
        self.assertIs(check_fence(VEE, VEE, ((0, 0, 0),)), True)
        self.assertIs(check_fence(VEE, VEE, ((0, 0, 0), (0, 0, 0))), True)
        self.assertIs(check_fence(first=VEE, second=VEE, rows=((0, 1, 2), (0, 0, 0), (0, 2, 1), (0, 2, 0))), True)
        self.assertIs(check_fence(EMPTY, CROWN, ((),)), True)
        self.assertIs(check_fence(EMPTY, EMPTY, ((), ())), True)

    def test_no_map_at_all(self):
        self.assertIs(check_fence(VEE, VEE, ()), False)
        self.assertIs(check_fence(EMPTY, VEE, ()), False)

    def test_neighbours(self):
        self.assertIs(check_fence(VEE, VEE, ((0, 1, 2), (0, 2, 1))), False)
        self.assertIs(check_fence(VEE, VEE, ((0, 0, 0), (0, 1, 2), (0, 2, 1))), False)
        self.assertIs(check_fence(VEE, VEE, ((0, 1, 2), (0, 2, 1), (0, 0, 1))), False)
        # Above in one place and below in another.
        self.assertIs(check_fence(antichain(2), chain(2), ((0, 1), (1, 0))), False)
        self.assertIs(check_fence(antichain(2), chain(2), ((0, 1), (1, 1), (1, 0))), True)

    def test_maps_that_are_none(self):
        good = (0, 1, 2)
        for bad in ((1, 0, 0), (0, 1), (0, 1, 2, 0), (), (0, 1, 3), (0, 1, -1), (0, 1, HUGE), (0, 1, None), None, "012", 0):
            for rows in ((bad,), (good, bad), (bad, good), (good, bad, good)):
                self.assertIs(check_fence(VEE, VEE, rows), False, rows)

    def test_values_of_any_form(self):
        for value in STRANGE_VALUES:
            self.assertIs(check_fence(VEE, VEE, value), False, value)
            self.assertIs(check_fence(VEE, VEE, ((0, 0, 0), value)), False, value)
            self.assertIs(check_fence(VEE, VEE, ((0, 0, 0), (0, 0, value))), value in (0, 1), value)
        self.assertIs(check_fence(POINT, chain(64), ((5,),) * 13000), True)

    def test_against_the_words(self):
        source = random.Random(24)
        for first, second in PAIRS:
            rows = all_maps(first, second)
            for _ in range(30 if rows else 0):
                fence = tuple(source.choice(rows) for _ in range(source.randint(1, 3)))
                near = all(
                    at_most(second, fence[k], fence[k + 1]) or at_most(second, fence[k + 1], fence[k])
                    for k in range(len(fence) - 1)
                )
                self.assertIs(check_fence(first, second, fence), near)

    def test_fence_steps(self):
        self.assertEqual(fence_steps(VEE, VEE, ((0, 1, 2),)), ())
        self.assertEqual(fence_steps(VEE, VEE, ((0, 1, 2), (0, 1, 2))), ())
        rows = ((0, 1, 2), (0, 0, 0), (0, 2, 1))
        self.assertEqual(fence_steps(first=VEE, second=VEE, rows=rows), ((2, 0), (1, 0), (1, 2), (2, 1)))
        self.assertEqual(fence_steps(chain(2), chain(3), ((0, 0), (1, 2), (0, 1))), ((1, 1), (1, 2), (0, 1), (0, 0), (1, 1)))
        self.assertEqual(fence_steps(EMPTY, CROWN, ((), ())), ())

    def test_fence_steps_lead_along_the_fence(self):
        source = random.Random(25)
        for first, second in PAIRS:
            rows = all_maps(first, second)
            for _ in range(10 if rows else 0):
                fence = [source.choice(rows)]
                for row in source.sample(rows, min(len(rows), 40)):
                    if check_fence(first, second, (fence[-1], row)):
                        fence.append(row)
                steps = fence_steps(first, second, tuple(fence))
                self.assertEqual(apply_steps(first, second, fence[0], steps), fence[-1])
                self.assertTrue(is_plain(steps))
                expected = ()
                for row, other in zip(fence, fence[1:]):
                    if at_most(second, row, other):
                        expected += steps_up(first, second, row, other)
                    else:
                        expected += steps_down(first, second, row, other)
                self.assertEqual(steps, expected)

    def test_the_maps_of_a_fence_rise(self):
        for row in all_maps(VEE, CROWN):
            self.assertIsNone(check_map(VEE, CROWN, row))
            self.assertIs(check_fence(VEE, CROWN, (row,)), True)
