"""[43]: collapses of chains, in pairs."""

import itertools
import random
import unittest

from strikecore.building import beside, induced, on_top, opposite
from strikecore.chains import chains
from strikecore.collapses import check_collapses, collapses
from strikecore.errors import NotStrikable, TooLarge
from strikecore.orders import order_of
from strikecore.weak import weak_left, weak_row
from tests.reference import CROWN, EMPTY, HUGE, POINT, SMALL_ORDERS, STRANGE_VALUES, VEE, WEDGE
from tests.reference import antichain, chain, is_plain, left_by, random_orders, random_weak_row, ring
from tests.test_weak import W

# Contractible, but with neither a greatest nor a least point.
FENCE = (4, ((0, 1), (2, 1), (2, 3)))

ORDERS = SMALL_ORDERS + [CROWN, W, opposite(W), ring(3), ring(5), chain(6), on_top(antichain(3), POINT)]
ORDERS += random_orders(30, 6, 171) + [on_top(POINT, FENCE)]
VEE_PAIRS = (((1,), (0, 1)), ((2,), (0, 2)))


def chains_left(order, pairs):
    """The chains that the pairs leave, or None if one of them is no collapse in its turn."""
    present = list(chains(order))
    for small, large in pairs:
        if small not in present or large not in present:
            return None
        if len(large) != len(small) + 1 or not set(small) < set(large):
            return None
        if [row for row in present if set(small) <= set(row)] != [small, large]:
            return None
        present.remove(small)
        present.remove(large)
    return present


def are_collapses(order, points, pairs):
    return chains_left(order, pairs) == [row for row in chains(order) if set(row) <= set(points)]


class TestCollapses(unittest.TestCase):
    def check(self, order, strikes):
        pairs = collapses(order, strikes)
        points = weak_left(order, strikes)
        self.assertTrue(is_plain(pairs))
        self.assertTrue(are_collapses(order, points, pairs))
        self.assertIs(check_collapses(order, points, pairs), True)
        left = [row for row in chains(order) if not any(row in pair for pair in pairs)]
        self.assertEqual(left, [tuple(points[i] for i in row) for row in chains(induced(order, points))])

    def test_some(self):
        self.assertEqual(collapses(VEE, ((1, "below"),)), (((1,), (0, 1)),))
        self.assertEqual(collapses(order=WEDGE, strikes=((0, "above"),)), (((0,), (0, 2)),))
        self.assertEqual(collapses(VEE, ((1, "below"), (2, "below"))), VEE_PAIRS)

    def test_no_strikes(self):
        for order in ORDERS + [chain(10), antichain(10)]:
            self.assertEqual(collapses(order, ()), ())
            self.check(order, ())

    def test_weak_rows(self):
        for order in ORDERS:
            self.check(order, weak_row(order))

    def test_other_weak_rows(self):
        source = random.Random(172)
        for order in ORDERS:
            for length in (1, 2, 3, None):
                self.check(order, random_weak_row(order, source, length))

    def test_ten_points(self):
        source = random.Random(173)
        orders = [chain(10), on_top(W, POINT), beside(W, POINT), on_top(ring(4), chain(2)), on_top(POINT, W)]
        for order in orders + random_orders(6, 10, 174, smallest=10):
            self.check(order, weak_row(order))
            self.check(order, random_weak_row(order, source))
        self.assertEqual(len(collapses(chain(10), weak_row(chain(10)))), 511)

    def test_both_ways(self):
        for order, strike in ((on_top(POINT, FENCE), (0, "above")), (on_top(FENCE, POINT), (4, "below"))):
            self.check(order, (strike,))
            self.assertEqual(len(weak_left(order, (strike,))), 4)
        middle = order_of(5, ((0, 1), (1, 2), (2, 3), (2, 4)))
        self.check(middle, ((2, "below"),))
        self.check(opposite(middle), ((2, "above"),))

    def test_too_large_ahead_of_not_strikable(self):
        for order in (chain(11), antichain(64)):
            for strikes in ((), ((0, "below"),), ((HUGE, "above"),)):
                with self.assertRaises(TooLarge):
                    collapses(order, strikes)

    def test_not_strikable(self):
        for order, strikes, at in (
            (VEE, ((0, "below"),), 0),
            (VEE, ((1, "below"), (1, "below")), 1),
            (VEE, ((1, "below"), (2, "below"), (0, "above")), 2),
            (VEE, ((1, "below"), (3, "below")), 1),
            (VEE, ((-1, "below"),), 0),
            (VEE, ((1, "below"), (HUGE, "above"), (2, "below")), 1),
            (EMPTY, ((0, "above"),), 0),
            (CROWN, ((0, "above"),), 0),
            (W, weak_row(W) + ((8, "below"),), 8),
        ):
            with self.assertRaises(NotStrikable) as caught:
                collapses(order, strikes)
            self.assertEqual(caught.exception.at, at)


class TestCheckCollapses(unittest.TestCase):
    def test_vee(self):
        self.assertIs(check_collapses(VEE, (0,), VEE_PAIRS), True)
        self.assertIs(check_collapses(order=VEE, points=(0,), value=VEE_PAIRS[::-1]), True)
        self.assertIs(check_collapses(VEE, (0, 2), VEE_PAIRS[:1]), True)
        self.assertIs(check_collapses(VEE, (1,), (((2,), (0, 2)), ((0,), (0, 1)))), True)
        self.assertIs(check_collapses(VEE, (1,), (((0,), (0, 1)), ((2,), (0, 2)))), False)
        self.assertIs(check_collapses(VEE, (0, 1, 2), ()), True)
        self.assertIs(check_collapses(EMPTY, (), ()), True)

    def test_points_that_do_not_fit(self):
        for order in ORDERS[:30] + [W, CROWN]:
            strikes = weak_row(order)
            pairs = collapses(order, strikes)
            good = weak_left(order, strikes)
            for size in range(order[0] + 1):
                for points in list(itertools.combinations(range(order[0]), size))[:10]:
                    self.assertIs(check_collapses(order, points, pairs), points == good)
        # All chains but (0,) are taken out; also for other points it would be one chain that is left.
        self.assertIs(check_collapses(chain(2), (0,), (((1,), (0, 1)),)), True)
        self.assertIs(check_collapses(chain(2), (1,), (((1,), (0, 1)),)), False)
        self.assertIs(check_collapses(chain(2), (), (((1,), (0, 1)),)), False)
        self.assertIs(check_collapses(chain(2), (0, 1), (((1,), (0, 1)),)), False)

    def test_other_sequences(self):
        source = random.Random(175)
        taken = 0
        refused = 0
        for order in ORDERS + random_orders(20, 5, 176, smallest=3):
            strikes = random_weak_row(order, source)
            pairs = list(collapses(order, strikes))
            points = left_by(order, strikes)
            for _ in range(5):
                source.shuffle(pairs)
                expected = are_collapses(order, points, tuple(pairs))
                self.assertIs(check_collapses(order, points, tuple(pairs)), expected)
                taken += expected
                refused += not expected
        self.assertGreater(taken, 20)
        self.assertGreater(refused, 20)

    def test_random_collapses(self):
        # Free pairs are taken out at random; what is left need not be the chains of some points.
        source = random.Random(177)
        seen = set()
        for order in ORDERS:
            present = list(chains(order))
            pairs = []
            for _ in range(source.randint(0, 12)):
                free = free_pairs(present)
                if free:
                    pairs.append(source.choice(free))
                    present = [row for row in present if row not in pairs[-1]]
            for size in range(order[0] + 1):
                for points in itertools.combinations(range(order[0]), size):
                    expected = are_collapses(order, points, pairs)
                    self.assertIs(check_collapses(order, points, tuple(pairs)), expected)
                    seen.add((expected, len(pairs) > 2))
        self.assertEqual(len(seen), 4)

    def test_pairs_left_out_and_pairs_added(self):
        for order in (VEE, WEDGE, chain(4), W, on_top(antichain(3), POINT)):
            strikes = weak_row(order)
            pairs = collapses(order, strikes)
            points = weak_left(order, strikes)
            for k in range(len(pairs)):
                self.assertIs(check_collapses(order, points, pairs[:k] + pairs[k + 1:]), False)
                self.assertIs(check_collapses(order, points, pairs[: k + 1] + pairs[k:]), False)
                turned = pairs[:k] + (pairs[k][::-1],) + pairs[k + 1:]
                self.assertIs(check_collapses(order, points, turned), False)

    def test_pairs_that_are_no_collapses(self):
        for order, points, pairs in (
            # The greater chain has two points more, or the same number.
            (chain(3), (), (((2,), (0, 1, 2)),)),
            (antichain(2), (), (((0,), (1,)),)),
            (POINT, (), (((0,), (0,)),)),
            # The first is no part of the second.
            (beside(chain(2), POINT), (), (((2,), (0, 1)),)),
            # Another chain has all points of the first.
            (VEE, (1, 2), (((0,), (0, 1)),)),
            (chain(3), (0, 1), (((2,), (0, 2)), ((1, 2), (0, 1, 2)))),
            # The empty row is no chain.
            (POINT, (), (((), (0,)),)),
        ):
            self.assertIs(check_collapses(order, points, pairs), False)
        self.assertIs(check_collapses(chain(3), (0, 1), (((1, 2), (0, 1, 2)), ((2,), (0, 2)))), True)

    def test_pairs_that_are_no_chains(self):
        good = VEE_PAIRS[0]
        for pair in (
            ((1,), (1, 0)),
            ((1, 2), (0, 1, 2)),
            ((2,), (1, 2)),
            ((3,), (0, 3)),
            ((-1,), (0, -1)),
            ((HUGE,), (0, HUGE)),
            ((2,), (0, -HUGE)),
            ((2, 2), (0, 2, 2)),
            ((2,), (0, 0)),
            ((2,), (0, 2), (0, 2)),
            ((2,),),
            (2, (0, 2)),
            ((2,), 2),
            (("2",), (0, 2)),
            ((2,), (0, "2")),
            ((None,), (0, 2)),
            (((2,),), ((0,), (2,))),
            ((2,), ((0, 2),)),
            (None, None),
            (),
            "20",
            None,
            2,
        ):
            self.assertIs(check_collapses(VEE, (0,), (good, pair)), False, pair)
            self.assertIs(check_collapses(VEE, (0, 2), (good, pair)), False, pair)
        self.assertIs(check_collapses(VEE, (0,), (good, ((2,), (0, 2)))), True)

    def test_values_of_any_form(self):
        for value in STRANGE_VALUES:
            self.assertIs(check_collapses(VEE, (0, 1, 2), value), value == ())
            self.assertIs(check_collapses(VEE, (0,), value), False)
            self.assertIs(check_collapses(EMPTY, (), value), value == ())
            pairs = [value, (value,), (value, value), ((2,), value), (value, (0, 2))]
            for pair in pairs + [((value,), (0, 2)), ((2,), (0, value))]:
                self.assertIs(check_collapses(VEE, (0,), VEE_PAIRS[:1] + (pair,)), pair == VEE_PAIRS[1])

    def test_too_large(self):
        for order in (chain(11), antichain(64)):
            for value in ((), None, (((0,), (0, 1)),)):
                with self.assertRaises(TooLarge):
                    check_collapses(order, tuple(range(order[0])), value)
        self.assertIs(check_collapses(chain(10), tuple(range(10)), ()), True)


def free_pairs(present):
    """All collapses that can be made while these chains are there."""
    found = []
    for small in present:
        above = [row for row in present if set(small) < set(row)]
        if len(above) == 1 and len(above[0]) == len(small) + 1:
            found.append((small, above[0]))
    return found
