"""[46], [47]: fibres of rising maps, and the cylinder."""

import random
import unittest

from strikecore.building import beside, induced, on_top, opposite, product
from strikecore.cores import is_contractible
from strikecore.errors import BadFibre, TooLarge
from strikecore.fibres import adjoint, cylinder, fibre, onto_first, onto_second
from strikecore.joined import joined
from strikecore.maps import all_maps, at_most, check_map, compose, identity_map
from strikecore.orders import check_order
from strikecore.shapes import same_shape
from strikecore.strikes import points_left
from strikecore.weak import weak_left
from tests.reference import CROWN, EMPTY, POINT, SMALL_ORDERS, VEE, WEDGE
from tests.reference import antichain, chain, is_at_most, is_plain, random_order, random_orders, ring
from tests.test_weak import W


def some_maps(seed):
    """Rising maps between small orders, as triples of both orders and the row."""
    source = random.Random(seed)
    orders = SMALL_ORDERS[3:] + [CROWN, chain(4), W, antichain(4)] + random_orders(15, 6, seed + 1, smallest=3)
    found = []
    while len(found) < 250:
        first, second = source.choice(orders), source.choice(orders)
        if first[0] < 7 and second[0] < 7:
            rows = all_maps(first, second)
            found.append((first, second, source.choice(rows)))
    return found


MAPS = some_maps(201)


def fibre_by_words(first, second, row, q, side):
    if side == "below":
        return tuple(x for x in range(first[0]) if is_at_most(second, row[x], q))
    return tuple(x for x in range(first[0]) if is_at_most(second, q, row[x]))


def greatest_of(order, points):
    tops = [x for x in points if all(is_at_most(order, y, x) for y in points)]
    return tops[0] if tops else None


def cylinder_by_words(first, second, row):
    n = first[0]
    pairs = set(beside(first, second)[1])
    pairs |= {(x, n + q) for x in range(n) for q in range(second[0]) if is_at_most(second, row[x], q)}
    return (n + second[0], tuple(sorted(pairs)))


def large_maps():
    """Maps between orders of many points."""
    source = random.Random(203)
    yield chain(64), chain(64), tuple(x // 2 for x in range(64))
    yield antichain(64), antichain(64), tuple(source.randrange(64) for _ in range(64))
    yield antichain(64), POINT, (0,) * 64
    order = random_order(64, 0.1, source)
    yield order, order, tuple(range(64))
    yield order, POINT, (0,) * 64
    yield product(CROWN, chain(16)), CROWN, tuple(x // 16 for x in range(64))
    yield ring(32), ring(32), tuple(range(1, 32)) + (0,) + tuple(range(33, 64)) + (32,)


class TestFibre(unittest.TestCase):
    def test_some(self):
        self.assertEqual(fibre(VEE, chain(2), (0, 1, 1), 0), (0,))
        self.assertEqual(fibre(VEE, chain(2), (0, 1, 1), 1), (0, 1, 2))
        self.assertEqual(fibre(VEE, chain(2), (0, 1, 1), 0, side="below"), (0,))
        self.assertEqual(fibre(VEE, chain(2), (0, 1, 1), 0, side="above"), (0, 1, 2))
        self.assertEqual(fibre(VEE, chain(2), (0, 1, 1), 1, side="above"), (1, 2))
        self.assertEqual(fibre(first=antichain(2), second=antichain(3), row=(2, 0), q=1, side="above"), ())
        self.assertEqual(fibre(EMPTY, VEE, (), 2), ())
        self.assertEqual(fibre(EMPTY, VEE, (), 2, side="above"), ())

    def test_against_the_words(self):
        for first, second, row in MAPS:
            for q in range(second[0]):
                below = fibre(first, second, row, q)
                self.assertEqual(below, fibre_by_words(first, second, row, q, "below"))
                self.assertEqual(fibre(first, second, row, q, side="below"), below)
                above = fibre(first, second, row, q, side="above")
                self.assertEqual(above, fibre_by_words(first, second, row, q, "above"))
                self.assertTrue(is_plain(below) and is_plain(above))

    def test_the_side_is_passed_by_name_only(self):
        with self.assertRaises(TypeError):
            fibre(VEE, VEE, (0, 1, 2), 0, "above")

    def test_64_points(self):
        for first, second, row in large_maps():
            for q in range(0, second[0], 5):
                for side in ("below", "above"):
                    found = fibre(first, second, row, q, side=side)
                    self.assertEqual(found, fibre_by_words(first, second, row, q, side))


class TestAdjoint(unittest.TestCase):
    def test_some(self):
        self.assertEqual(adjoint(chain(3), chain(2), (0, 0, 1)), (1, 2))
        self.assertEqual(adjoint(first=chain(2), second=chain(3), row=(0, 2)), (0, 0, 1))
        self.assertEqual(adjoint(VEE, POINT, (0, 0, 0)), None)
        self.assertEqual(adjoint(WEDGE, POINT, (0, 0, 0)), (2,))
        # The fibre below 0 is empty.
        self.assertIsNone(adjoint(chain(2), chain(3), (1, 2)))
        self.assertIsNone(adjoint(EMPTY, POINT, ()))
        self.assertEqual(adjoint(EMPTY, EMPTY, ()), ())

    def test_against_the_words(self):
        seen = []
        for first, second, row in MAPS:
            tops = [greatest_of(first, fibre_by_words(first, second, row, q, "below")) for q in range(second[0])]
            found = adjoint(first, second, row)
            self.assertEqual(found, None if None in tops else tuple(tops))
            seen.append(found is not None)
            if found is not None:
                self.assertTrue(is_plain(found))
                self.assertIsNone(check_map(second, first, found))
                self.assertTrue(at_most(first, identity_map(first), compose(row, found)))
                self.assertTrue(at_most(second, compose(found, row), identity_map(second)))
                self.assertEqual(same_shape(first, second)[0], "yes")
        self.assertGreater(seen.count(True), 20)
        self.assertGreater(seen.count(False), 20)

    def test_the_identity(self):
        for order in SMALL_ORDERS + [CROWN, W, chain(64), antichain(64)]:
            self.assertEqual(adjoint(order, order, identity_map(order)), identity_map(order))

    def test_64_points(self):
        for first, second, row in large_maps():
            tops = [greatest_of(first, fibre_by_words(first, second, row, q, "below")) for q in range(second[0])]
            self.assertEqual(adjoint(first, second, row), None if None in tops else tuple(tops))
        self.assertEqual(adjoint(chain(64), chain(64), tuple(x // 2 for x in range(64)))[:3], (1, 3, 5))


class TestCylinder(unittest.TestCase):
    def test_some(self):
        self.assertEqual(cylinder(EMPTY, EMPTY, ()), EMPTY)
        self.assertEqual(cylinder(EMPTY, VEE, ()), VEE)
        self.assertEqual(cylinder(POINT, VEE, (0,)), (4, ((0, 1), (0, 2), (0, 3), (1, 2), (1, 3))))
        self.assertEqual(cylinder(first=POINT, second=VEE, row=(2,)), (4, ((0, 3), (1, 2), (1, 3))))
        self.assertEqual(cylinder(antichain(2), antichain(2), (1, 1)), (4, ((0, 3), (1, 3))))

    def test_pair_by_pair(self):
        for first, second, row in MAPS:
            found = cylinder(first, second, row)
            self.assertEqual(found, cylinder_by_words(first, second, row))
            self.assertIsNone(check_order(found))
            self.assertTrue(is_plain(found))

    def test_too_large(self):
        for first, second in ((64, 1), (1, 64), (33, 32), (64, 64), (0, 64), (32, 32), (63, 1)):
            row = (0,) * first
            arguments = (chain(first), chain(second), row)
            if first + second > 64:
                for function in (cylinder, onto_second, onto_first):
                    with self.assertRaises(TooLarge):
                        function(*arguments)
            else:
                self.assertEqual(cylinder(*arguments), cylinder_by_words(*arguments))
        with self.assertRaises(TooLarge):
            cylinder(antichain(64), POINT, (0,) * 64)


class TestOntoSecond(unittest.TestCase):
    def test_some(self):
        self.assertEqual(onto_second(EMPTY, VEE, ()), ())
        self.assertEqual(onto_second(EMPTY, EMPTY, ()), ())
        self.assertEqual(onto_second(VEE, POINT, (0, 0, 0)), ((2, "up"), (1, "up"), (0, "up")))
        self.assertEqual(onto_second(first=WEDGE, second=POINT, row=(0, 0, 0)), ((2, "up"), (1, "up"), (0, "up")))
        order = (3, ((1, 0), (2, 0)))
        self.assertEqual(onto_second(order, POINT, (0, 0, 0)), ((0, "up"), (2, "up"), (1, "up")))
        order = (4, ((2, 0), (3, 1)))
        expected = ((1, "up"), (3, "up"), (0, "up"), (2, "up"))
        self.assertEqual(onto_second(order, VEE, (1, 2, 0, 0)), expected)

    def expected(self, first):
        """[47], word by word."""
        left = list(range(first[0]))
        strikes = []
        while left:
            x = max(y for y in left if not any((y, z) in first[1] for z in left))
            strikes.append((x, "up"))
            left.remove(x)
        return tuple(strikes)

    def test_against_the_words(self):
        for first, second, row in MAPS:
            found = onto_second(first, second, row)
            self.assertEqual(found, self.expected(first))
            whole = cylinder(first, second, row)
            self.assertEqual(points_left(whole, found), tuple(range(first[0], whole[0])))
            self.assertTrue(is_plain(found))

    def test_64_points(self):
        source = random.Random(204)
        for first, second in ((chain(32), chain(32)), (antichain(63), POINT), (random_order(50, 0.1, source), chain(14))):
            row = (second[0] - 1,) * first[0]
            found = onto_second(first, second, row)
            self.assertEqual(found, self.expected(first))
            self.assertEqual(points_left(cylinder(first, second, row), found), tuple(range(first[0], 64)))


class TestOntoFirst(unittest.TestCase):
    def expected(self, first, second):
        """[47], word by word."""
        left = list(range(second[0]))
        strikes = []
        while left:
            q = min(p for p in left if not any((r, p) in second[1] for r in left))
            strikes.append((first[0] + q, "below"))
            left.remove(q)
        return tuple(strikes)

    def test_some(self):
        self.assertEqual(onto_first(EMPTY, EMPTY, ()), ())
        self.assertEqual(onto_first(VEE, POINT, (0, 0, 0)), ((3, "below"),))
        self.assertEqual(onto_first(first=VEE, second=VEE, row=(0, 1, 2)), ((3, "below"), (4, "below"), (5, "below")))
        order = (3, ((1, 0), (2, 0)))
        self.assertEqual(onto_first(order, order, (0, 1, 2)), ((4, "below"), (5, "below"), (3, "below")))
        order = (4, ((2, 0), (3, 1)))
        expected = tuple((4 + q, "below") for q in (2, 0, 3, 1))
        self.assertEqual(onto_first(order, order, (0, 1, 2, 3)), expected)

    def test_against_the_words(self):
        seen = []
        for first, second, row in MAPS:
            fibres = [fibre_by_words(first, second, row, q, "below") for q in range(second[0])]
            wrong = [q for q, points in enumerate(fibres) if not is_contractible(induced(first, points))]
            seen.append(bool(wrong))
            if wrong:
                with self.assertRaises(BadFibre) as caught:
                    onto_first(first, second, row)
                self.assertEqual(caught.exception.point, wrong[0])
            else:
                found = onto_first(first, second, row)
                self.assertEqual(found, self.expected(first, second))
                self.assertTrue(is_plain(found))
                self.assertEqual(weak_left(cylinder(first, second, row), found), tuple(range(first[0])))
        self.assertGreater(seen.count(True), 20)
        self.assertGreater(seen.count(False), 20)

    def test_contractible_fibres_join_the_orders(self):
        for first, second, row in MAPS:
            try:
                onto_first(first, second, row)
            except BadFibre:
                continue
            self.assertNotEqual(joined(first, second)[0], "not")

    def test_bad_fibres(self):
        for first, second, row, q in (
            # An empty fibre is not contractible.
            (EMPTY, POINT, (), 0),
            (POINT, VEE, (1,), 0),
            (POINT, VEE, (0,), None),
            (POINT, antichain(3), (1,), 0),
            (POINT, antichain(3), (0,), 1),
            (antichain(2), POINT, (0, 0), 0),
            (CROWN, POINT, (0, 0, 0, 0), 0),
            # W can be struck to one point by weak strikes only.
            (W, POINT, (0,) * 9, 0),
            (chain(9), POINT, (0,) * 9, None),
            (beside(POINT, POINT), WEDGE, (0, 1), 2),
            (CROWN, chain(2), (0, 0, 1, 1), 0),
            (on_top(CROWN, POINT), chain(2), (0, 0, 0, 0, 1), 0),
            (opposite(VEE), chain(2), (1, 0, 0), 0),
        ):
            if q is None:
                onto_first(first, second, row)
            else:
                with self.assertRaises(BadFibre) as caught:
                    onto_first(first, second, row)
                self.assertEqual(caught.exception.point, q)

    def test_too_large_ahead_of_bad_fibre(self):
        with self.assertRaises(TooLarge):
            onto_first(antichain(64), POINT, (0,) * 64)
        with self.assertRaises(BadFibre):
            onto_first(antichain(63), POINT, (0,) * 63)
        with self.assertRaises(TooLarge):
            onto_first(POINT, antichain(64), (0,))

    def test_64_points(self):
        source = random.Random(205)
        for order in (chain(32), random_order(32, 0.2, source), antichain(32), ring(16)):
            found = onto_first(order, order, identity_map(order))
            self.assertEqual(found, self.expected(order, order))
            self.assertEqual(weak_left(cylinder(order, order, identity_map(order)), found), tuple(range(32)))
