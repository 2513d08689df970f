"""[4] to [8]: what an order is, making orders, and asking about their points."""

import itertools
import random
import unittest

from strikecore.errors import BadOrder, RingFound, TooLarge
from strikecore.orders import above, below, check_order, covers, greatest, is_below, is_connected
from strikecore.orders import least, maximal, minimal, order_of, pieces
from tests import reference
from tests.reference import CROWN, EMPTY, HUGE, POINT, SMALL_ORDERS, STRANGE_VALUES, VEE, WEDGE
from tests.reference import antichain, chain, is_plain

RANDOM_ORDERS = reference.random_orders(60, 9, 1)
LARGE_ORDERS = [
    chain(64),
    antichain(64),
    reference.ring(32),
    reference.random_order(64, 0.05, random.Random(2)),
    (64, tuple((x, y) for x in range(0, 64, 2) for y in range(1, 64, 2))),
]
ORDERS = SMALL_ORDERS + [CROWN] + RANDOM_ORDERS


def fault_of(value):
    """The attribute of the BadOrder that is raised, in a tuple, or () if none is."""
    try:
        result = check_order(value)
    except BadOrder as error:
        return (error.pair,)
    assert result is None
    return ()


def expected_fault(n, pairs):
    """As [5] tells it, for a value of the right form."""
    for k, (x, y) in enumerate(pairs):
        if x not in range(n) or y not in range(n) or x == y or (k and pairs[k] <= pairs[k - 1]):
            return ((x, y),)
    turned = [(x, y) for x, y in pairs if (y, x) in pairs]
    if turned:
        return (min(turned),)
    missing = [(x, z) for x, y in pairs for w, z in pairs if y == w and (x, z) not in pairs]
    return (min(missing),) if missing else ()


class TestCheckOrder(unittest.TestCase):
    def test_orders_are_taken(self):
        for order in ORDERS + LARGE_ORDERS + [EMPTY, POINT, antichain(64)]:
            self.assertIsNone(check_order(order))
            self.assertIsNone(check_order(value=order))

    def test_values_of_any_form(self):
        for value in STRANGE_VALUES:
            with self.subTest(value=value):
                self.assertEqual(fault_of(value), (None,))

    def test_number_of_points(self):
        self.assertEqual(fault_of((0, ())), ())
        self.assertEqual(fault_of((64, ())), ())
        for n in (65, -1, HUGE, -HUGE, None, "1", (1,)):
            self.assertEqual(fault_of((n, ())), (None,))
            self.assertEqual(fault_of((n, ((5, 5),))), (None,))

    def test_items_that_are_no_pairs(self):
        for item in (None, 0, "", "ab", (), (0,), (0, 1, 2), (0, None), (None, 1), ("0", "1"), (0, (1,)), ((0, 1),)):
            with self.subTest(item=item):
                self.assertEqual(fault_of((3, (item,))), (None,))
                # The form of all comes ahead of the numbers of any.
                self.assertEqual(fault_of((3, ((9, 9), item))), (None,))
                self.assertEqual(fault_of((3, ((0, 1), (0, 2), item))), (None,))

    def test_length_of_the_value(self):
        self.assertEqual(fault_of((0,)), (None,))
        self.assertEqual(fault_of((0, (), ())), (None,))

    def test_numbers_out_of_range(self):
        for bad in (-1, 3, 64, HUGE, -HUGE):
            for pair in ((0, bad), (bad, 0), (bad, bad)):
                self.assertEqual(fault_of((3, (pair,))), (pair,))
                self.assertEqual(fault_of((3, ((0, 1), pair, (-7, 8)))), (pair,))
        self.assertEqual(fault_of((0, ((0, 0),))), ((0, 0),))
        self.assertEqual(fault_of((64, ((0, 63),))), ())
        self.assertEqual(fault_of((64, ((0, 64),))), ((0, 64),))

    def test_equal_numbers(self):
        self.assertEqual(fault_of((2, ((0, 0),))), ((0, 0),))
        self.assertEqual(fault_of((2, ((0, 1), (1, 1)))), ((1, 1),))

    def test_pairs_that_do_not_ascend(self):
        self.assertEqual(fault_of((3, ((0, 1), (0, 1)))), ((0, 1),))
        self.assertEqual(fault_of((3, ((0, 2), (0, 1)))), ((0, 1),))
        self.assertEqual(fault_of((3, ((1, 2), (0, 2)))), ((0, 2),))
        self.assertEqual(fault_of((4, ((0, 1), (2, 3), (0, 3), (5, 5)))), ((0, 3),))

    def test_turned_pairs(self):
        self.assertEqual(fault_of((2, ((0, 1), (1, 0)))), ((0, 1),))
        self.assertEqual(fault_of((4, ((0, 1), (2, 3), (3, 2)))), ((2, 3),))
        # A missing pair that is less comes behind.
        self.assertEqual(fault_of((5, ((0, 1), (1, 2), (3, 4), (4, 3)))), ((3, 4),))

    def test_missing_pairs(self):
        self.assertEqual(fault_of((3, ((0, 1), (1, 2)))), ((0, 2),))
        self.assertEqual(fault_of((4, ((0, 1), (1, 2), (2, 3)))), ((0, 2),))
        self.assertEqual(fault_of((4, ((0, 1), (1, 2), (1, 3), (0, 3), (2, 3)))), ((0, 3),))
        self.assertEqual(fault_of((4, ((0, 1), (0, 2), (1, 2), (1, 3), (2, 3)))), ((0, 3),))
        self.assertEqual(fault_of((4, ((2, 1), (3, 2)))), ((3, 1),))
        self.assertEqual(fault_of((5, ((0, 4), (1, 0), (3, 1)))), ((1, 4),))

    def test_the_places_come_ahead_of_turned_and_missing_pairs(self):
        self.assertEqual(fault_of((3, ((0, 1), (1, 0), (2, 2)))), ((2, 2),))
        self.assertEqual(fault_of((3, ((0, 1), (1, 2), (2, 2)))), ((2, 2),))
        self.assertEqual(fault_of((3, ((0, 1), (1, 0), (0, 2)))), ((0, 2),))

    def test_all_ascending_tuples_of_pairs(self):
        places = [(x, y) for x in range(3) for y in range(3)]
        for bits in itertools.product((0, 1), repeat=len(places)):
            pairs = tuple(pair for pair, bit in zip(places, bits) if bit)
            self.assertEqual(fault_of((3, pairs)), expected_fault(3, pairs), pairs)

    def test_random_tuples_of_pairs(self):
        source = random.Random(3)
        for _ in range(1500):
            n = source.randint(0, 5)
            pairs = [(source.randint(-1, n), source.randint(0, n)) for _ in range(source.randint(0, 5))]
            if source.random() < 0.7:
                pairs = [(x, y) for x, y in sorted(set(pairs)) if x != y and 0 <= x < n and y < n]
            self.assertEqual(fault_of((n, tuple(pairs))), expected_fault(n, tuple(pairs)), (n, pairs))

    def test_large_orders_with_one_pair_taken_out(self):
        n, pairs = chain(64)
        self.assertEqual(fault_of((n, pairs[:62] + pairs[63:])), ((0, 63),))
        self.assertEqual(fault_of((n, tuple(pair for pair in pairs if pair != (30, 40)))), ((30, 40),))
        many = tuple((x, x + 1) for x in range(20000))
        self.assertEqual(fault_of((64, many)), ((63, 64),))

    def test_the_pair_is_plain(self):
        for value in ((3, ((0, 1), (1, 2))), (2, ((0, 1), (1, 0))), (2, ((1, 1),))):
            self.assertTrue(is_plain(fault_of(value)))


class TestOrderOf(unittest.TestCase):
    def test_example_of_the_crown(self):
        self.assertEqual(order_of(4, ((0, 2), (0, 3), (1, 2), (1, 3))), CROWN)
        self.assertEqual(order_of(n=4, links=((1, 3), (0, 2), (1, 2), (0, 3), (0, 2))), CROWN)

    def test_without_links(self):
        for n in (0, 1, 2, 64):
            self.assertEqual(order_of(n, ()), (n, ()))

    def test_no_error_for_more_than_64_points(self):
        self.assertEqual(order_of(65, ((64, 0),)), (65, ((64, 0),)))

    def test_links_in_any_order_and_repeated(self):
        links = ((2, 1), (0, 2), (2, 1), (1, 3), (0, 2))
        for turned in itertools.permutations(links):
            self.assertEqual(order_of(4, turned), (4, ((0, 1), (0, 2), (0, 3), (1, 3), (2, 1), (2, 3))))

    def test_long_ways(self):
        self.assertEqual(order_of(64, tuple((x, x + 1) for x in range(63))), chain(64))
        turned = tuple((x + 1, x) for x in range(63))
        self.assertEqual(order_of(64, turned), (64, tuple((x, y) for x in range(64) for y in range(x))))

    def test_against_the_closure(self):
        source = random.Random(4)
        for _ in range(300):
            n = source.randint(1, 7)
            links = tuple((source.randrange(n), source.randrange(n)) for _ in range(source.randint(0, 8)))
            known = reference.closure(links)
            rings = tuple(x for x in range(n) if (x, x) in known)
            if rings:
                with self.assertRaises(RingFound) as caught:
                    order_of(n, links)
                self.assertEqual(caught.exception.points, rings)
            else:
                self.assertEqual(order_of(n, links), (n, tuple(sorted(known))))

    def test_links_out_of_range(self):
        for bad in (-1, 3, 64, HUGE, -HUGE):
            for link in ((0, bad), (bad, 0), (bad, bad)):
                with self.assertRaises(BadOrder) as caught:
                    order_of(3, ((0, 1), link, (0, 77), (1, 1)))
                self.assertEqual(caught.exception.pair, link)
        with self.assertRaises(BadOrder) as caught:
            order_of(0, ((0, 0),))
        self.assertEqual(caught.exception.pair, (0, 0))

    def test_range_comes_ahead_of_rings(self):
        with self.assertRaises(BadOrder) as caught:
            order_of(3, ((1, 1), (0, 1), (1, 0), (2, 3)))
        self.assertEqual(caught.exception.pair, (2, 3))

    def ring_points(self, n, links):
        with self.assertRaises(RingFound) as caught:
            order_of(n, links)
        self.assertTrue(is_plain(caught.exception.points))
        return caught.exception.points

    def test_rings(self):
        self.assertEqual(self.ring_points(1, ((0, 0),)), (0,))
        self.assertEqual(self.ring_points(3, ((2, 2),)), (2,))
        self.assertEqual(self.ring_points(3, ((2, 0), (0, 2))), (0, 2))
        self.assertEqual(self.ring_points(4, ((3, 1), (1, 2), (2, 3))), (1, 2, 3))
        # Two rings, and a link between them.
        self.assertEqual(self.ring_points(6, ((0, 4), (4, 0), (4, 5), (5, 2), (2, 5))), (0, 2, 4, 5))
        # 0 only leads to the ring, 4 only comes of it, 5 stands between two rings.
        links = ((0, 1), (1, 2), (2, 1), (2, 4), (2, 5), (5, 3), (3, 3))
        self.assertEqual(self.ring_points(6, links), (1, 2, 3))
        long_ring = tuple((x, (x + 1) % 64) for x in range(64))
        self.assertEqual(self.ring_points(64, long_ring), tuple(range(64)))

    def test_equal_calls_have_equal_results(self):
        links = ((2, 1), (0, 2))
        self.assertEqual(order_of(3, links), order_of(3, links))
        self.assertEqual(links, ((2, 1), (0, 2)))


class TestCovers(unittest.TestCase):
    def test_covers(self):
        self.assertEqual(covers(CROWN), CROWN[1])
        self.assertEqual(covers(chain(4)), ((0, 1), (1, 2), (2, 3)))
        self.assertEqual(covers((3, ((2, 0), (2, 1), (1, 0)))), ((1, 0), (2, 1)))
        for order in (EMPTY, POINT, antichain(64)):
            self.assertEqual(covers(order), ())
        self.assertEqual(covers(order=chain(64)), tuple((x, x + 1) for x in range(63)))

    def test_against_the_words(self):
        for order in ORDERS + LARGE_ORDERS[2:]:
            self.assertEqual(covers(order), reference.covers(order))

    def test_order_of_the_covers_is_the_order(self):
        for order in ORDERS + LARGE_ORDERS:
            self.assertEqual(order_of(order[0], covers(order)), order)


class TestPoints(unittest.TestCase):
    def test_below_and_above(self):
        for order in ORDERS + LARGE_ORDERS:
            for x in range(order[0]):
                self.assertEqual(below(order, x), tuple(y for y in range(order[0]) if (y, x) in order[1]))
                self.assertEqual(above(order, x), tuple(y for y in range(order[0]) if (x, y) in order[1]))

    def test_below_and_above_ascend(self):
        order = (4, ((2, 1), (3, 1), (3, 2)))
        self.assertEqual(below(order, 1), (2, 3))
        self.assertEqual(above(order, 3), (1, 2))
        self.assertEqual(above(order=order, x=0), ())
        self.assertEqual(below(order=order, x=3), ())

    def test_is_below(self):
        for order in ORDERS:
            for x in range(order[0]):
                for y in range(order[0]):
                    self.assertIs(is_below(order, x, y), (x, y) in order[1])
        self.assertIs(is_below(order=CROWN, x=0, y=2), True)
        self.assertIs(is_below(CROWN, 2, 0), False)
        self.assertIs(is_below(CROWN, 2, 2), False)
        self.assertIs(is_below(chain(64), 0, 63), True)

    def test_minimal_and_maximal(self):
        for order in ORDERS + LARGE_ORDERS:
            points = range(order[0])
            lows = {x for x, _ in order[1]}
            highs = {y for _, y in order[1]}
            self.assertEqual(minimal(order), tuple(x for x in points if x not in highs))
            self.assertEqual(maximal(order), tuple(x for x in points if x not in lows))
        self.assertEqual(minimal(order=CROWN), (0, 1))
        self.assertEqual(maximal(order=CROWN), (2, 3))
        self.assertEqual(minimal(EMPTY), ())
        self.assertEqual(maximal(EMPTY), ())
        self.assertEqual(maximal(POINT), (0,))

    def test_least_and_greatest(self):
        for order in ORDERS + LARGE_ORDERS:
            points = range(order[0])
            lows = [x for x in points if all(reference.is_at_most(order, x, y) for y in points)]
            highs = [x for x in points if all(reference.is_at_most(order, y, x) for y in points)]
            self.assertEqual(least(order), lows[0] if lows else None)
            self.assertEqual(greatest(order), highs[0] if highs else None)

    def test_least_and_greatest_of_some(self):
        self.assertIsNone(least(EMPTY))
        self.assertIsNone(greatest(EMPTY))
        self.assertEqual(least(POINT), 0)
        self.assertEqual(greatest(POINT), 0)
        self.assertEqual((least(VEE), greatest(VEE)), (0, None))
        self.assertEqual((least(WEDGE), greatest(WEDGE)), (None, 2))
        self.assertEqual((least(CROWN), greatest(CROWN)), (None, None))
        self.assertEqual((least(chain(64)), greatest(chain(64))), (0, 63))
        # A point above nothing and below nothing is no end of the others.
        self.assertEqual((least((3, ((1, 2),))), greatest((3, ((1, 2),)))), (None, None))
        self.assertEqual(least(order=(2, ((1, 0),))), 1)
        self.assertEqual(greatest(order=(2, ((1, 0),))), 0)


class TestPieces(unittest.TestCase):
    def test_some(self):
        self.assertEqual(pieces(EMPTY), ())
        self.assertEqual(pieces(POINT), ((0,),))
        self.assertEqual(pieces(antichain(3)), ((0,), (1,), (2,)))
        self.assertEqual(pieces(CROWN), ((0, 1, 2, 3),))
        self.assertEqual(pieces(order=(5, ((0, 3), (4, 1)))), ((0, 3), (1, 4), (2,)))
        self.assertEqual(pieces((6, ((5, 0), (4, 2), (4, 3)))), ((0, 5), (1,), (2, 3, 4)))
        self.assertEqual(pieces(chain(64)), (tuple(range(64)),))
        self.assertEqual(pieces(antichain(64)), tuple((x,) for x in range(64)))
        self.assertEqual(pieces(reference.ring(32)), (tuple(range(64)),))
        stripes = (64, tuple((x, x + 32) for x in range(32)))
        self.assertEqual(pieces(stripes), tuple((x, x + 32) for x in range(32)))

    def test_against_the_words(self):
        for order in ORDERS:
            n, pairs = order
            together = reference.closure(set(pairs) | {(y, x) for x, y in pairs} | {(x, x) for x in range(n)})
            expected = {tuple(y for y in range(n) if (x, y) in together) for x in range(n)}
            self.assertEqual(pieces(order), tuple(sorted(expected)))
            self.assertTrue(is_plain(pieces(order)))
            self.assertIs(is_connected(order), len(expected) == 1)

    def test_is_connected(self):
        self.assertIs(is_connected(EMPTY), False)
        self.assertIs(is_connected(POINT), True)
        self.assertIs(is_connected(antichain(2)), False)
        self.assertIs(is_connected(order=CROWN), True)
        self.assertIs(is_connected(antichain(64)), False)
        self.assertIs(is_connected(chain(64)), True)


class TestKinds(unittest.TestCase):
    def test_results_are_plain(self):
        for order in ORDERS:
            results = [order_of(order[0], order[1]), covers(order), minimal(order), maximal(order)]
            results += [least(order), greatest(order), pieces(order)]
            results += [below(order, x) for x in range(order[0])] + [above(order, x) for x in range(order[0])]
            self.assertTrue(all(is_plain(result) for result in results))

    def test_no_function_of_orders_raises_too_large(self):
        order = antichain(65)
        try:
            covers(order), minimal(order), maximal(order), least(order), greatest(order), pieces(order)
        except TooLarge:
            self.fail("TooLarge is for functions that make orders")
