"""[48] to [52]: coverings of orders."""

import itertools
import random
import unittest

from strikecore.building import beside, induced, on_top, opposite, product
from strikecore.cores import core, is_contractible
from strikecore.coverings import along, alike_over, check_table, covering, drop_covering, grow_covering, lift, sheet_map
from strikecore.errors import BadCovering, NotBelow, NotContractible, NotOver, NotStrikable, TooLarge
from strikecore.maps import all_maps, check_map, compose
from strikecore.orders import check_order, order_of
from tests import reference
from tests.reference import CROWN, EMPTY, HUGE, POINT, SMALL_ORDERS, STRANGE_VALUES, VEE, WEDGE
from tests.reference import antichain, chain, covers, is_at_most, is_plain, random_orders, ring
from tests.test_weak import W

DIAMOND = product(chain(2), chain(2))
# From 0 up to 4 there are three ways.
THREE_WAYS = order_of(5, ((0, 1), (0, 2), (0, 3), (1, 4), (2, 4), (3, 4)))
# The least point does not stand first, nor does the greatest one stand last.
TURNED_DIAMOND = order_of(4, ((2, 0), (2, 3), (0, 1), (3, 1)))
ORDERS = [EMPTY, POINT, VEE, WEDGE, CROWN, DIAMOND, THREE_WAYS, TURNED_DIAMOND, ring(3), W, antichain(3), chain(4)]
ORDERS += [on_top(CROWN, POINT), on_top(CROWN, antichain(2)), beside(CROWN, VEE), product(CROWN, chain(2))]
ORDERS += [on_top(antichain(3), antichain(3)), opposite(W)] + random_orders(20, 7, 211, smallest=3)
CROWN_TABLE = ((0, 2, (0, 1)), (0, 3, (0, 1)), (1, 2, (0, 1)), (1, 3, (1, 0)))


def turns_of(sheets):
    return list(itertools.permutations(range(sheets)))


def straight(order, sheets):
    return tuple((x, y, tuple(range(sheets))) for x, y in covers(order))


def ways(order, x, y):
    """All ways along covers from x up to y."""
    if x == y:
        return [(x,)]
    links = covers(order)
    return [(x,) + way for z in range(order[0]) if (x, z) in links for way in ways(order, z, y)]


def turns_by_ways(order, sheets, table, x, y):
    """The set of the turns of all ways from x up to y."""
    turns = {(low, high): turn for low, high, turn in table}
    found = set()
    for way in ways(order, x, y):
        found.add(tuple(sheet_after(way, turns, i) for i in range(sheets)))
    return found


def sheet_after(way, turns, sheet):
    for link in zip(way, way[1:]):
        sheet = turns[link][sheet]
    return sheet


def first_disagreement(order, sheets, table):
    for x, y in order[1]:
        if len(turns_by_ways(order, sheets, table, x, y)) > 1:
            return (x, y)
    return None


def random_table(order, sheets, source):
    return tuple((x, y, source.choice(turns_of(sheets))) for x, y in covers(order))


def twisted(table, turns):
    """The table of a covering that the turns at the points lead into."""
    found = []
    for x, y, turn in table:
        turned = [None] * len(turn)
        for i, j in enumerate(turn):
            turned[turns[x][i]] = turns[y][j]
        found.append((x, y, tuple(turned)))
    return tuple(found)


def good_table(order, sheets, source):
    """A random covering table; pulled back from a crown where there is a map that is not constant."""
    rows = all_maps(order, CROWN) if 1 <= order[0] <= 6 else ()
    table = straight(order, sheets)
    if rows:
        row = source.choice(rows)
        under = random_table(CROWN, sheets, source)
        turns = {(x, y): turn for x, y, turn in under}
        table = tuple((x, y, turns.get((row[x], row[y]), tuple(range(sheets)))) for x, y in covers(order))
    return twisted(table, [source.choice(turns_of(sheets)) for _ in range(order[0])])


def good_tables(seed):
    source = random.Random(seed)
    found = [(order, k, good_table(order, k, source)) for order in ORDERS for k in (1, 2, 3, 4)]
    tries = [(order, k, random_table(order, k, source)) for order in ORDERS for k in (2, 3, 4) for _ in range(3)]
    return found + [item for item in tries if first_disagreement(*item) is None]


GOOD = good_tables(212)


class TestCheckTable(unittest.TestCase):
    def assert_bad(self, order, sheets, table, pair):
        with self.assertRaises(BadCovering) as caught:
            check_table(order, sheets, table)
        self.assertEqual(caught.exception.pair, pair)
        self.assertTrue(is_plain(caught.exception.pair))

    def test_tables_that_agree(self):
        self.assertGreater(len(GOOD), 100)
        for order, sheets, table in GOOD:
            self.assertIsNone(check_table(order, sheets, table))
        self.assertIsNone(check_table(order=CROWN, sheets=2, table=CROWN_TABLE))

    def test_no_pairs(self):
        for order in (EMPTY, POINT, antichain(16)):
            for sheets in (1, 2, 3, 4):
                self.assertIsNone(check_table(order, sheets, ()))
                self.assert_bad(order, sheets, ((0, 1, tuple(range(sheets))),), None)

    def test_random_tables(self):
        source = random.Random(213)
        seen = []
        for order in ORDERS:
            for sheets in (1, 2, 3, 4):
                for _ in range(4):
                    table = random_table(order, sheets, source)
                    pair = first_disagreement(order, sheets, table)
                    seen.append(pair is None)
                    if pair is None:
                        self.assertIsNone(check_table(order, sheets, table))
                    else:
                        self.assert_bad(order, sheets, table, pair)
        self.assertGreater(seen.count(True), 50)
        self.assertGreater(seen.count(False), 50)

    def test_one_turn_that_does_not_agree(self):
        source = random.Random(214)
        for order, sheets, table in GOOD:
            if table and sheets > 1:
                at = source.randrange(len(table))
                x, y, turn = table[at]
                other = source.choice([other for other in turns_of(sheets) if other != turn])
                table = table[:at] + ((x, y, other),) + table[at + 1:]
                pair = first_disagreement(order, sheets, table)
                if pair is None:
                    self.assertIsNone(check_table(order, sheets, table))
                else:
                    self.assert_bad(order, sheets, table, pair)

    def test_the_least_pair_by_the_numbers(self):
        same, other = (0, 1), (1, 0)
        self.assert_bad(DIAMOND, 2, ((0, 1, same), (0, 2, same), (1, 3, same), (2, 3, other)), (0, 3))
        self.assert_bad(TURNED_DIAMOND, 2, ((0, 1, same), (2, 0, same), (2, 3, other), (3, 1, same)), (2, 1))
        # Below the two ways that disagree there is 0; so the pair (0, 3) is less than (1, 2).
        order = order_of(6, ((0, 1), (1, 4), (1, 5), (4, 2), (5, 2), (2, 3)))
        table = tuple((x, y, other if (x, y) == (5, 2) else same) for x, y in covers(order))
        self.assert_bad(order, 2, table, (0, 2))
        order = order_of(6, ((5, 1), (1, 4), (1, 0), (4, 2), (0, 2), (2, 3)))
        table = tuple((x, y, other if (x, y) == (0, 2) else same) for x, y in covers(order))
        self.assert_bad(order, 2, table, (1, 2))
        order = order_of(6, ((5, 4), (4, 3), (4, 2), (3, 1), (2, 1), (1, 0)))
        table = tuple((x, y, other if (x, y) == (2, 1) else same) for x, y in covers(order))
        self.assert_bad(order, 2, table, (4, 0))

    def test_more_than_two_ways(self):
        turns = ((0, 1, 2), (1, 2, 0), (2, 0, 1))
        for three in itertools.product(turns, repeat=3):
            table = tuple((0, x, three[x - 1]) for x in (1, 2, 3)) + tuple((x, 4, (0, 1, 2)) for x in (1, 2, 3))
            if len(set(three)) == 1:
                self.assertIsNone(check_table(THREE_WAYS, 3, table))
            else:
                self.assert_bad(THREE_WAYS, 3, table, (0, 4))
        order = on_top(on_top(antichain(5), antichain(6)), antichain(5))
        self.assertIsNone(check_table(order, 4, straight(order, 4)))
        table = straight(order, 4)[:-1] + ((10, 15, (0, 1, 3, 2)),)
        self.assert_bad(order, 4, table, (0, 15))

    def test_ways_that_disagree_and_come_together_again(self):
        # The turns of both ways differ in the middle, and in the end: each sheet has its own fault.
        order = order_of(7, ((0, 1), (0, 2), (1, 3), (2, 3), (3, 4), (3, 5), (4, 6), (5, 6)))
        same, other = (0, 1), (1, 0)
        table = tuple((x, y, other if (x, y) in ((2, 3), (5, 6)) else same) for x, y in covers(order))
        self.assert_bad(order, 2, table, (0, 3))

    def test_other_forms(self):
        good = CROWN_TABLE
        self.assertIsNone(check_table(CROWN, 2, good))
        for table in (
            (),
            good[:3],
            good[1:],
            good[:1] + good,
            good + good[-1:],
            good + ((2, 3, (0, 1)),),
            good[::-1],
            (good[1], good[0]) + good[2:],
            good[:3] + ((1, 2, (0, 1)),),
            good[:3] + ((3, 1, (0, 1)),),
            good[:3] + ((0, 1, (0, 1)),),
            good[:3] + ((1, 4, (0, 1)),),
            good[:3] + ((1, HUGE, (0, 1)),),
            good[:3] + ((1, "3", (0, 1)),),
            good[:3] + ((1, None, (0, 1)),),
            good[:3] + ((1, 3),),
            good[:3] + ((1, 3, (0, 1), 0),),
            good[:3] + (((1, 3), (0, 1)),),
            good[:3] + ((1, 3, 0, 1),),
            good[:3] + ("123",),
            good[:3] + (None,),
            good[:3] + (7,),
            good[:3] + ((1, 3, ()),),
            good[:3] + ((1, 3, (0,)),),
            good[:3] + ((1, 3, (0, 1, 2)),),
            good[:3] + ((1, 3, (0, 0)),),
            good[:3] + ((1, 3, (1, 1)),),
            good[:3] + ((1, 3, (0, 2)),),
            good[:3] + ((1, 3, (1, 2)),),
            good[:3] + ((1, 3, (0, -1)),),
            good[:3] + ((1, 3, (0, HUGE)),),
            good[:3] + ((1, 3, (0, "1")),),
            good[:3] + ((1, 3, ("0", "1")),),
            good[:3] + ((1, 3, (None, 1)),),
            good[:3] + ((1, 3, ((0,), 1)),),
            good[:3] + ((1, 3, "01"),),
            good[:3] + ((1, 3, None),),
            good[:3] + ((1, 3, 1),),
        ):
            self.assert_bad(CROWN, 2, table, None)
        for sheets in (1, 3, 4):
            self.assert_bad(CROWN, sheets, good, None)

    def test_pairs_that_are_no_covers(self):
        self.assertIsNone(check_table(chain(3), 1, ((0, 1, (0,)), (1, 2, (0,)))))
        self.assert_bad(chain(3), 1, ((0, 1, (0,)), (0, 2, (0,)), (1, 2, (0,))), None)
        self.assert_bad(chain(3), 1, ((0, 1, (0,)), (0, 2, (0,))), None)

    def test_the_form_comes_ahead_of_the_ways(self):
        same, other = (0, 1), (1, 0)
        table = ((0, 1, same), (0, 2, same), (1, 3, same), (2, 3, other))
        self.assert_bad(DIAMOND, 2, table, (0, 3))
        self.assert_bad(DIAMOND, 2, table + (None,), None)

    def test_values_of_any_form(self):
        for value in STRANGE_VALUES:
            for order in (POINT, VEE, CROWN):
                for sheets in (1, 2, 4):
                    if order == POINT and value == ():
                        continue
                    self.assert_bad(order, sheets, value, None)
                    self.assert_bad(order, sheets, (value,) * len(covers(order)) + (value,), None)
            table = ((0, 1, value), (0, 2, value))
            if value == (0,):
                self.assertIsNone(check_table(VEE, 1, table))
            else:
                self.assert_bad(VEE, 1, table, None)
            self.assert_bad(VEE, 1, ((0, 1, (0,)), value), None)
            self.assert_bad(VEE, 1, ((0, 1, (0,)), (0, value, (0,))), None)

    def test_too_large(self):
        for table in ((), None, "table", CROWN_TABLE, ((0, 1, (0,)),)):
            for order in (antichain(17), chain(17), antichain(64), ring(32)):
                for sheets in (1, 4, 0, 5):
                    with self.assertRaises(TooLarge):
                        check_table(order, sheets, table)
            for sheets in (0, 5, -1, 64, HUGE, -HUGE):
                for order in (EMPTY, POINT, CROWN, chain(16)):
                    with self.assertRaises(TooLarge):
                        check_table(order, sheets, table)
        self.assertIsNone(check_table(chain(16), 4, straight(chain(16), 4)))
        large = on_top(antichain(8), antichain(8))
        self.assertIsNone(check_table(large, 4, random_table(large, 4, random.Random(215))))


class TestAlong(unittest.TestCase):
    def test_some(self):
        self.assertEqual(along(CROWN, 2, CROWN_TABLE, 1, 3), (1, 0))
        self.assertEqual(along(order=CROWN, sheets=2, table=CROWN_TABLE, x=0, y=0), (0, 1))
        table = ((0, 1, (1, 2, 0)), (1, 2, (0, 2, 1)))
        # Sheet 0 goes to 1 and on to 2; 1 to 2 and on to 1; 2 to 0.
        self.assertEqual(along(chain(3), 3, table, 0, 2), (2, 1, 0))

    def test_all_pairs(self):
        for order, sheets, table in GOOD:
            for x, y in itertools.product(range(order[0]), repeat=2):
                if is_at_most(order, x, y):
                    found = along(order, sheets, table, x, y)
                    self.assertEqual({found}, turns_by_ways(order, sheets, table, x, y))
                    self.assertTrue(is_plain(found))
                    if x == y:
                        self.assertEqual(found, tuple(range(sheets)))
                else:
                    with self.assertRaises(NotBelow):
                        along(order, sheets, table, x, y)

    def test_too_large_ahead_of_not_below(self):
        for order, sheets in ((antichain(17), 2), (chain(17), 1), (VEE, 0), (VEE, 5), (VEE, -1), (VEE, HUGE)):
            for x, y in ((2, 1), (0, 0), (0, 1)):
                with self.assertRaises(TooLarge):
                    along(order, sheets, (), x, y)


class TestCovering(unittest.TestCase):
    def test_some(self):
        self.assertEqual(covering(EMPTY, 3, ()), EMPTY)
        self.assertEqual(covering(POINT, 4, ()), antichain(4))
        self.assertEqual(covering(antichain(16), 4, ()), antichain(64))
        expected = ((0, 4), (0, 6), (1, 5), (1, 7), (2, 4), (2, 7), (3, 5), (3, 6))
        self.assertEqual(covering(order=CROWN, sheets=2, table=CROWN_TABLE), (8, expected))

    def test_pair_by_pair(self):
        for order, sheets, table in GOOD:
            found = covering(order, sheets, table)
            self.assertTrue(is_plain(found))
            self.assertIsNone(check_order(found))
            self.assertEqual(found[0], order[0] * sheets)
            expected = set()
            for x, y in order[1]:
                (turn,) = turns_by_ways(order, sheets, table, x, y)
                expected |= {(x * sheets + i, y * sheets + j) for i, j in enumerate(turn)}
            self.assertEqual(found[1], tuple(sorted(expected)))

    def test_just_one_point_above_and_below(self):
        for order, sheets, table in GOOD:
            pairs = covering(order, sheets, table)[1]
            for x, y in order[1]:
                for i in range(sheets):
                    above = [high for low, high in pairs if low == x * sheets + i and high // sheets == y]
                    below = [low for low, high in pairs if high == y * sheets + i and low // sheets == x]
                    self.assertEqual((len(above), len(below)), (1, 1))

    def test_shapes(self):
        # Two sheets over a crown make two crowns or one of twice the size.
        self.assertTrue(reference.are_alike(covering(CROWN, 2, CROWN_TABLE), ring(4)))
        self.assertTrue(reference.are_alike(covering(CROWN, 2, straight(CROWN, 2)), beside(CROWN, CROWN)))

    def test_64_points(self):
        order = on_top(antichain(8), antichain(8))
        found = covering(order, 4, random_table(order, 4, random.Random(216)))
        self.assertEqual((found[0], len(found[1])), (64, 256))
        self.assertIsNone(check_order(found))
        self.assertEqual(len(covering(chain(16), 4, straight(chain(16), 4))[1]), 480)

    def test_too_large(self):
        for order, sheets in ((antichain(17), 1), (antichain(64), 4), (POINT, 0), (POINT, 5), (EMPTY, -1), (EMPTY, HUGE)):
            with self.assertRaises(TooLarge):
                covering(order, sheets, ())


class TestSheetMap(unittest.TestCase):
    def test_some(self):
        self.assertEqual(sheet_map(EMPTY, 4), ())
        self.assertEqual(sheet_map(order=VEE, sheets=2), (0, 0, 1, 1, 2, 2))
        self.assertEqual(sheet_map(VEE, 1), (0, 1, 2))
        self.assertEqual(sheet_map(antichain(16), 4), tuple(p // 4 for p in range(64)))

    def test_it_rises(self):
        for order, sheets, table in GOOD:
            row = sheet_map(order, sheets)
            self.assertEqual(row, tuple(p // sheets for p in range(order[0] * sheets)))
            self.assertIsNone(check_map(covering(order, sheets, table), order, row))
            self.assertTrue(is_plain(row))

    def test_too_large(self):
        for order, sheets in ((antichain(17), 1), (chain(64), 4), (POINT, 0), (POINT, 5), (EMPTY, -1), (EMPTY, HUGE)):
            with self.assertRaises(TooLarge):
                sheet_map(order, sheets)


class TestLift(unittest.TestCase):
    def test_some(self):
        self.assertEqual(lift(POINT, CROWN, 2, CROWN_TABLE, (0,)), (0,))
        self.assertEqual(lift(POINT, CROWN, 2, CROWN_TABLE, (3,), start=7), (7,))
        self.assertEqual(lift(chain(2), CROWN, 2, CROWN_TABLE, (1, 3), start=2), (2, 7))
        self.assertEqual(lift(chain(2), CROWN, 2, CROWN_TABLE, (1, 3), point=1, start=6), (3, 6))
        fence = (5, ((0, 2), (0, 3), (1, 2), (1, 4)))
        # Once round the crown leads from one sheet to the other.
        self.assertEqual(lift(base=fence, order=CROWN, sheets=2, table=CROWN_TABLE, row=(0, 1, 2, 3, 3)), (0, 2, 4, 6, 7))
        found = lift(base=fence, order=CROWN, sheets=2, table=CROWN_TABLE, row=(0, 1, 2, 3, 3), point=4, start=6)
        self.assertEqual(found, (1, 3, 5, 7, 6))

    def bases(self):
        found = [order for order in SMALL_ORDERS + ORDERS + random_orders(30, 6, 217) if is_contractible(order)]
        return [order for order in found if order[0] < 7]

    def check(self, base, order, sheets, table, row, point, start):
        found = lift(base, order, sheets, table, row, point=point, start=start)
        self.assertTrue(is_plain(found))
        self.assertIsNone(check_map(base, covering(order, sheets, table), found))
        self.assertEqual(compose(found, sheet_map(order, sheets)), row)
        self.assertEqual(found[point], start)
        return found

    def test_contractible_bases(self):
        source = random.Random(218)
        tables = [item for item in GOOD if 0 < item[0][0] <= 8]
        for base in self.bases():
            for order, sheets, table in source.sample(tables, 8):
                row = source.choice(all_maps(base, order)) if base[0] < 5 else (source.randrange(order[0]),) * base[0]
                for point in range(base[0]):
                    for sheet in range(sheets):
                        self.check(base, order, sheets, table, row, point, row[point] * sheets + sheet)

    def test_there_is_no_other_lift(self):
        source = random.Random(219)
        for base in self.bases():
            if base[0] < 5:
                order, sheets, table = source.choice([(CROWN, 2, CROWN_TABLE), (CROWN, 3, random_table(CROWN, 3, source))])
                whole = covering(order, sheets, table)
                row = source.choice(all_maps(base, order))
                every = [found for found in all_maps(base, whole) if compose(found, sheet_map(order, sheets)) == row]
                self.assertEqual(len(every), sheets)
                for found in every:
                    point = source.randrange(base[0])
                    self.assertEqual(self.check(base, order, sheets, table, row, point, found[point]), found)

    def test_defaults(self):
        for order, sheets, table in GOOD:
            if order[0]:
                base = chain(3)
                row = (0,) * 3
                self.assertEqual(lift(base, order, sheets, table, row), (0, 0, 0))
                self.assertEqual(lift(base, order, sheets, table, row, start=sheets - 1), (sheets - 1,) * 3)
                self.assertEqual(lift(base, order, sheets, table, row, point=2), (0, 0, 0))

    def test_points_and_starts_are_passed_by_name_only(self):
        with self.assertRaises(TypeError):
            lift(POINT, POINT, 1, (), (0,), 0, 0)
        with self.assertRaises(TypeError):
            lift(POINT, POINT, 1, (), (0,), 0)

    def test_16_points(self):
        source = random.Random(220)
        order = on_top(antichain(8), antichain(8))
        table = random_table(order, 4, source)
        fence = (16, tuple(sorted([(x, 8 + x) for x in range(8)] + [(x + 1, 8 + x) for x in range(7)])))
        self.assertIs(is_contractible(fence), True)
        for base in (chain(16), fence, on_top(antichain(15), POINT)):
            row = tuple(source.randrange(8) + (0 if any(x == low for low, _ in base[1]) else 8) for x in range(16))
            if base == chain(16):
                row = (3,) * 7 + (12,) * 9
            for point in (0, 7, 15):
                for sheet in range(4):
                    self.check(base, order, 4, table, row, point, row[point] * 4 + sheet)

    def test_not_contractible_ahead_of_not_over(self):
        for base in (EMPTY, antichain(2), CROWN, W, ring(8)):
            for start in (0, 2, 5, 8, -1, HUGE):
                with self.assertRaises(NotContractible):
                    lift(base, CROWN, 2, CROWN_TABLE, (0,) * base[0], start=start)

    def test_not_over(self):
        for point, row in ((0, (0, 2)), (1, (0, 2)), (0, (3, 3)), (1, (1, 3))):
            good = [row[point] * 2, row[point] * 2 + 1]
            for start in [*range(-5, 12), HUGE, -HUGE]:
                if start in good:
                    self.check(chain(2), CROWN, 2, CROWN_TABLE, row, point, start)
                else:
                    with self.assertRaises(NotOver):
                        lift(chain(2), CROWN, 2, CROWN_TABLE, row, point=point, start=start)
        with self.assertRaises(NotOver):
            lift(chain(2), CROWN, 2, CROWN_TABLE, (1, 3))

    def test_too_large_comes_first(self):
        for base, order, sheets in (
            (antichain(17), CROWN, 2),
            (chain(17), CROWN, 2),
            (antichain(64), antichain(64), 1),
            (POINT, chain(17), 1),
            (EMPTY, antichain(17), 1),
            (POINT, POINT, 0),
            (POINT, POINT, 5),
            (EMPTY, POINT, -1),
            (antichain(2), POINT, HUGE),
        ):
            for start in (0, -1, 99):
                with self.assertRaises(TooLarge):
                    lift(base, order, sheets, straight(order, 1), (0,) * base[0], start=start)


def alike_by_trying(order, sheets, table, other):
    """All tuples of turns that lead one covering over into the other, ascending; for small orders."""
    every = itertools.product(turns_of(sheets), repeat=order[0])
    return [turns for turns in every if twisted(table, turns) == other]


class TestAlikeOver(unittest.TestCase):
    def test_some(self):
        self.assertEqual(alike_over(EMPTY, 3, (), ()), ())
        self.assertEqual(alike_over(POINT, 3, (), ()), ((0, 1, 2),))
        self.assertEqual(alike_over(antichain(2), 2, (), ()), ((0, 1), (0, 1)))
        self.assertIsNone(alike_over(order=CROWN, sheets=2, table=CROWN_TABLE, other=straight(CROWN, 2)))
        other = ((0, 2, (1, 0)),) + CROWN_TABLE[1:3] + ((1, 3, (0, 1)),)
        self.assertEqual(alike_over(CROWN, 2, CROWN_TABLE, other), ((0, 1), (1, 0), (1, 0), (0, 1)))

    def test_by_trying_all(self):
        source = random.Random(221)
        seen = []
        limits = {1: 7, 2: 7, 3: 5, 4: 3}
        small = SMALL_ORDERS + [CROWN, DIAMOND, beside(VEE, POINT), beside(chain(2), antichain(2)), beside(chain(2), chain(2))]
        for order in small + ORDERS:
            for sheets in (1, 2, 3, 4):
                if order[0] <= limits[sheets]:
                    table = good_table(order, sheets, source)
                    others = [twisted(table, [source.choice(turns_of(sheets)) for _ in range(order[0])])]
                    others.append(good_table(order, sheets, source))
                    loose = random_table(order, sheets, source)
                    if first_disagreement(order, sheets, loose) is None:
                        others.append(loose)
                    for other in others:
                        every = alike_by_trying(order, sheets, table, other)
                        found = alike_over(order, sheets, table, other)
                        self.assertEqual(found, every[0] if every else None)
                        self.assertTrue(is_plain(found))
                        seen.append(bool(every))
        self.assertGreater(seen.count(False), 5)
        self.assertGreater(seen.count(True), 60)

    def test_the_first_turns_of_a_piece_need_not_be_straight(self):
        other = twisted(CROWN_TABLE, ((0, 1),) * 4)
        self.assertEqual(alike_over(CROWN, 2, CROWN_TABLE, other), ((0, 1),) * 4)
        # Round the crown the sheets turn as (1, 0, 2) or as (0, 2, 1); only some turns lead one into the other.
        low = straight(CROWN, 3)[:3] + ((1, 3, (1, 0, 2)),)
        high = straight(CROWN, 3)[:3] + ((1, 3, (0, 2, 1)),)
        self.assertEqual(alike_over(CROWN, 3, low, high), ((1, 2, 0),) * 4)
        self.assertEqual(alike_by_trying(CROWN, 3, low, high)[0], ((1, 2, 0),) * 4)

    def test_several_pieces(self):
        # The points of both pieces stand in turns; each piece has its own least turns.
        order = order_of(8, ((0, 4), (0, 6), (2, 4), (2, 6), (1, 5), (1, 7), (3, 5), (3, 7)))
        source = random.Random(222)
        for _ in range(20):
            table = random_table(order, 2, source)
            other = random_table(order, 2, source)
            every = alike_by_trying(order, 2, table, other)
            self.assertEqual(alike_over(order, 2, table, other), every[0] if every else None)
        table = straight(order, 2)
        self.assertIsNone(alike_over(order, 2, table, table[:-1] + ((3, 7, (1, 0)),)))

    def test_large_orders(self):
        source = random.Random(223)
        for order in (on_top(antichain(8), antichain(8)), antichain(16), chain(16), beside(ring(4), ring(4))):
            table = random_table(order, 4, source) if order != chain(16) else straight(order, 4)
            turns = [source.choice(turns_of(4)) for _ in range(16)]
            other = twisted(table, turns)
            found = alike_over(order, 4, table, other)
            self.assertEqual(twisted(table, found), other)
            self.assertLessEqual(found, tuple(turns))

    def test_too_large(self):
        for order, sheets in ((antichain(17), 1), (chain(64), 4), (POINT, 0), (POINT, 5), (EMPTY, -1), (EMPTY, HUGE)):
            with self.assertRaises(TooLarge):
                alike_over(order, sheets, (), ())


def other_points(order, strike):
    return tuple(x for x in range(order[0]) if x != strike[0])


def all_strikes(order):
    return reference.strikes_of(order, tuple(range(order[0])))


class TestDropCovering(unittest.TestCase):
    def test_some(self):
        table = ((0, 1, (1, 0)), (1, 2, (1, 0)))
        self.assertEqual(drop_covering(chain(3), 2, table, (1, "up")), ((0, 1, (0, 1)),))
        self.assertEqual(drop_covering(chain(3), 2, table, (1, "down")), ((0, 1, (0, 1)),))
        self.assertEqual(drop_covering(chain(3), 2, table, (0, "up")), ((0, 1, (1, 0)),))
        self.assertEqual(drop_covering(order=chain(3), sheets=2, table=table, strike=(2, "down")), ((0, 1, (1, 0)),))
        self.assertEqual(drop_covering(chain(2), 2, ((0, 1, (1, 0)),), (1, "down")), ())

    def test_the_covering_without_the_sheets_of_the_point(self):
        many = 0
        for order, sheets, table in GOOD:
            whole = covering(order, sheets, table)
            for strike in all_strikes(order):
                found = drop_covering(order, sheets, table, strike)
                small = induced(order, other_points(order, strike))
                self.assertTrue(is_plain(found))
                self.assertIsNone(check_table(small, sheets, found))
                kept = tuple(p for p in range(whole[0]) if p // sheets != strike[0])
                self.assertEqual(covering(small, sheets, found), induced(whole, kept))
                many += 1
        self.assertGreater(many, 100)


class TestGrowCovering(unittest.TestCase):
    def test_some(self):
        self.assertEqual(grow_covering(chain(2), 2, (1, "down"), ()), ((0, 1, (0, 1)),))
        table = ((0, 1, (1, 0)),)
        self.assertEqual(grow_covering(chain(3), 2, (1, "down"), table), ((0, 1, (0, 1)), (1, 2, (1, 0))))
        self.assertEqual(grow_covering(chain(3), 2, (1, "up"), table), ((0, 1, (1, 0)), (1, 2, (0, 1))))
        self.assertEqual(grow_covering(order=chain(3), sheets=2, strike=(0, "up"), table=table), ((0, 1, (0, 1)), (1, 2, (1, 0))))

    def test_drop_and_grow_lead_back(self):
        source = random.Random(224)
        ways_seen = []
        for order in ORDERS:
            for strike in all_strikes(order):
                points = other_points(order, strike)
                small = induced(order, points)
                partner = reference.partner(order, tuple(range(order[0])), strike)
                for sheets in (1, 2, 3, 4):
                    table = good_table(small, sheets, source)
                    found = grow_covering(order, sheets, strike, table)
                    self.assertTrue(is_plain(found))
                    self.assertIsNone(check_table(order, sheets, found))
                    self.assertEqual(drop_covering(order, sheets, found, strike), table)
                    ends = (partner, strike[0]) if strike[1] == "down" else (strike[0], partner)
                    self.assertEqual(along(order, sheets, found, *ends), tuple(range(sheets)))
                    ways_seen.append(strike[1])
        self.assertGreater(ways_seen.count("down"), 50)
        self.assertGreater(ways_seen.count("up"), 50)

    def test_grow_and_drop_lead_back_up_to_likeness(self):
        for order, sheets, table in GOOD:
            for strike in all_strikes(order):
                again = grow_covering(order, sheets, strike, drop_covering(order, sheets, table, strike))
                self.assertIsNotNone(alike_over(order, sheets, table, again))


class TestDropAndGrowErrors(unittest.TestCase):
    def test_not_strikable(self):
        for order in (EMPTY, POINT, VEE, CROWN, chain(3), W, DIAMOND):
            good = all_strikes(order)
            for x in [*range(-2, order[0] + 2), HUGE, -HUGE]:
                for way in ("down", "up"):
                    if (x, way) in good:
                        continue
                    for table in (straight(order, 2), (), ((0, 1, (1, 1)),), ((5, 7, ()),)):
                        with self.assertRaises(NotStrikable) as caught:
                            drop_covering(order, 2, table, (x, way))
                        self.assertEqual(caught.exception.at, 0)
                        with self.assertRaises(NotStrikable) as caught:
                            grow_covering(order, 2, (x, way), table)
                        self.assertEqual(caught.exception.at, 0)

    def test_too_large_ahead_of_not_strikable(self):
        for order, sheets in ((chain(17), 2), (antichain(17), 1), (chain(64), 4), (VEE, 0), (VEE, 5), (VEE, -1), (VEE, HUGE)):
            for strike in ((0, "down"), (1, "down"), (-1, "up"), (HUGE, "up")):
                with self.assertRaises(TooLarge):
                    drop_covering(order, sheets, (), strike)
                with self.assertRaises(TooLarge):
                    grow_covering(order, sheets, strike, ())

    def test_16_points(self):
        order = chain(16)
        table = tuple((x, x + 1, turns_of(4)[x]) for x in range(15))
        for strike in ((0, "up"), (7, "up"), (7, "down"), (15, "down")):
            small = drop_covering(order, 4, table, strike)
            self.assertEqual(len(small), 14)
            self.assertEqual(drop_covering(order, 4, grow_covering(order, 4, strike, small), strike), small)


def count_coverings(order, sheets):
    """The number of coverings that are not alike over the order."""
    links = covers(order)
    found = []
    for turns in itertools.product(turns_of(sheets), repeat=len(links)):
        table = tuple((x, y, turn) for (x, y), turn in zip(links, turns))
        if first_disagreement(order, sheets, table) is None:
            if all(alike_over(order, sheets, table, other) is None for other in found):
                found.append(table)
    return len(found)


class TestNumbersOfCoverings(unittest.TestCase):
    def test_orders_of_one_shape_have_equally_many(self):
        self.assertEqual([count_coverings(CROWN, sheets) for sheets in (1, 2, 3)], [1, 2, 3])
        self.assertEqual(count_coverings(CROWN, 2), count_coverings(ring(3), 2))
        tail = (5, ((0, 2), (0, 3), (0, 4), (1, 2), (1, 3), (1, 4), (2, 4)))
        self.assertEqual(core(tail), CROWN)
        self.assertEqual(count_coverings(tail, 2), 2)
        for order in (POINT, VEE, WEDGE, DIAMOND, THREE_WAYS, chain(4)):
            self.assertEqual(count_coverings(order, 2), 1)
        self.assertEqual(count_coverings(antichain(2), 3), 1)
        self.assertEqual(count_coverings(VEE, 3), 1)
