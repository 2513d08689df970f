"""[58], [59]: books, which keep an order and change it."""

import itertools
import random
import unittest

from strikecore.books import Book
from strikecore.building import beside, on_top, opposite, product
from strikecore.errors import BadEdit, BadOrder, NothingLeft, StrikeError, TooLarge, UnknownPoint
from strikecore.orders import check_order, order_of
from tests.reference import CROWN, EMPTY, HUGE, POINT, SMALL_ORDERS, STRANGE_VALUES, VEE, WEDGE
from tests.reference import antichain, chain, closure, covers, is_at_most, is_plain, random_orders, ring, subsets
from tests.test_weak import W

ORDERS = SMALL_ORDERS + [CROWN, chain(4), W] + random_orders(15, 6, 241, smallest=4)


def outcome(call, *arguments):
    """What a call returns, or its error as the name and the attributes."""
    try:
        return ("returned", call(*arguments))
    except StrikeError as error:
        return (type(error).__name__, vars(error))


def is_part(order, value):
    return (
        isinstance(value, tuple)
        and all(isinstance(x, int) and x in range(order[0]) for x in value)
        and list(value) == sorted(set(value))
    )


def fault_of_place(order, under, over):
    """The kind and the pair of BadEdit for put_point, word by word, or None."""
    n, pairs = order
    if not is_part(order, under):
        return ("under", None)
    if not is_part(order, over):
        return ("over", None)
    faults = [(l, m) for l in under for m in range(n) if (m, l) in pairs and m not in under]
    if faults:
        return ("below", min(faults))
    faults = [(h, m) for h in over for m in range(n) if (h, m) in pairs and m not in over]
    if faults:
        return ("above", min(faults))
    faults = [(l, h) for l in under for h in over if (l, h) not in pairs]
    if faults:
        return ("between", min(faults))
    return None


def with_point(order, under, over):
    n, pairs = order
    return (n + 1, tuple(sorted(set(pairs) | {(x, n) for x in under} | {(n, y) for y in over})))


def without_point(order, x):
    n, pairs = order
    return (n - 1, tuple((a - (a > x), b - (b > x)) for a, b in pairs if x not in (a, b)))


def with_pair(order, x, y):
    return (order[0], tuple(sorted(closure(set(order[1]) | {(x, y)}))))


class Case(unittest.TestCase):
    def assert_edit(self, order, expected, name, *arguments, result=None):
        """The edit is made, and can be undone and redone."""
        book = Book(order)
        found = getattr(book, name)(*arguments)
        self.assertEqual(found, result)
        self.assertTrue(is_plain(found))
        self.assertEqual(book.order, expected)
        self.assertTrue(is_plain(book.order))
        self.assertIsNone(check_order(book.order))
        self.assertIsNone(book.undo())
        self.assertEqual(book.order, order)
        self.assertIsNone(book.redo())
        self.assertEqual(book.order, expected)

    def assert_refused(self, order, error, told, name, *arguments):
        """The edit is refused, and nothing changes, neither for undo and redo."""
        book = Book(order)
        book.turn()
        book.put_beside(EMPTY)
        book.turn()
        book.put_beside(EMPTY)
        book.undo()
        self.assertEqual(book.order, order)
        with self.assertRaises(error) as caught:
            getattr(book, name)(*arguments)
        self.assertIs(type(caught.exception), error)
        self.assertEqual(vars(caught.exception), told)
        self.assertTrue(all(is_plain(value) for value in told.values()))
        self.assertEqual(book.order, order)
        book.redo()
        self.assertEqual(outcome(book.redo), ("NothingLeft", {}))
        for expected in (order, opposite(order), opposite(order), order):
            book.undo()
            self.assertEqual(book.order, expected)
        self.assertEqual(outcome(book.undo), ("NothingLeft", {}))


class TestMaking(Case):
    def test_orders(self):
        for order in ORDERS + [chain(64), antichain(64)]:
            self.assertEqual(Book(order).order, order)
            self.assertEqual(Book(order=order).order, order)

    def test_bad_order_as_check_order(self):
        values = list(STRANGE_VALUES) + [
            (3, ((0, 1), (1, 2))),
            (2, ((0, 1), (1, 0))),
            (2, ((0, 1), (0, 1))),
            (2, ((0, 0),)),
            (2, ((0, 2),)),
            (65, ()),
            (4, ((2, 3), (1, 2), (1, 3))),
        ]
        refused = 0
        for value in values:
            told = outcome(check_order, value)
            made = outcome(Book, value)
            if told[0] == "returned":
                self.assertEqual(made[0], "returned")
            else:
                self.assertEqual(made, told)
                refused += 1
        self.assertGreater(refused, 30)
        with self.assertRaises(BadOrder) as caught:
            Book((3, ((0, 1), (1, 2))))
        self.assertEqual(caught.exception.pair, (0, 2))

    def test_the_order_is_a_property_that_cannot_be_set(self):
        self.assertIsInstance(Book.order, property)
        book = Book(VEE)
        with self.assertRaises(AttributeError):
            book.order = CROWN

    def test_two_books_do_not_touch_each_other(self):
        order = CROWN
        first, second = Book(order), Book(order)
        first.turn()
        first.drop_point(0)
        self.assertEqual((second.order, order), (CROWN, CROWN))
        self.assertEqual(outcome(second.undo), ("NothingLeft", {}))
        second.put_point((), ())
        first.undo()
        self.assertEqual(second.order, (5, CROWN[1]))
        self.assertEqual(first.order, opposite(CROWN))
        self.assertEqual(outcome(second.redo), ("NothingLeft", {}))
        first.redo()
        self.assertEqual(first.order[0], 3)


class TestPutPoint(Case):
    def test_examples(self):
        with self.assertRaises(BadEdit) as caught:
            Book((2, ((0, 1),))).put_point((1,), ())
        self.assertEqual((caught.exception.kind, caught.exception.pair), ("below", (1, 0)))
        self.assertEqual(Book((2, ((0, 1),))).put_point((0, 1), ()), 2)

    def test_some(self):
        self.assert_edit(EMPTY, POINT, "put_point", (), (), result=0)
        self.assert_edit(chain(2), chain(3), "put_point", (0, 1), (), result=2)
        self.assert_edit(chain(2), (3, ((0, 1), (0, 2), (2, 1))), "put_point", (0,), (1,), result=2)
        self.assert_edit(antichain(2), (3, ((2, 0), (2, 1))), "put_point", (), (0, 1), result=2)
        book = Book(CROWN)
        self.assertEqual(book.put_point(under=(0, 1), over=(2, 3)), 4)
        self.assertEqual(book.put_point((0, 1, 2, 4), ()), 5)
        self.assertEqual(book.order[0], 6)

    def test_all_places_against_the_words(self):
        seen = set()
        for order in SMALL_ORDERS + [CROWN, chain(4), VEE, (4, ((0, 1), (2, 3)))]:
            for under, over in itertools.product(subsets(order[0]), repeat=2):
                fault = fault_of_place(order, under, over)
                book = Book(order)
                if fault is None:
                    self.assertEqual(book.put_point(under, over), order[0])
                    self.assertEqual(book.order, with_point(order, under, over))
                    self.assertIsNone(check_order(book.order))
                else:
                    told = {"kind": fault[0], "pair": fault[1]}
                    self.assertEqual(outcome(book.put_point, under, over), ("BadEdit", told))
                    self.assertEqual(book.order, order)
                seen.add(fault and fault[0])
        self.assertEqual(seen, {None, "below", "above", "between"})

    def test_random_places(self):
        source = random.Random(242)
        seen = {}
        for order in random_orders(60, 12, 243, smallest=3):
            for _ in range(20):
                under = {x for x in range(order[0]) if source.random() < 0.2}
                over = {x for x in range(order[0]) if source.random() < 0.2}
                if source.random() < 0.7:
                    under |= {x for x, y in order[1] if y in under}
                if source.random() < 0.7:
                    over |= {y for x, y in order[1] if x in over}
                if source.random() < 0.5:
                    over = {y for y in over if all((x, y) in order[1] for x in under)}
                under, over = tuple(sorted(under)), tuple(sorted(over))
                fault = fault_of_place(order, under, over)
                found = outcome(Book(order).put_point, under, over)
                if fault is None:
                    self.assert_edit(order, with_point(order, under, over), "put_point", under, over, result=order[0])
                else:
                    self.assertEqual(found, ("BadEdit", {"kind": fault[0], "pair": fault[1]}))
                seen[fault and fault[0]] = seen.get(fault and fault[0], 0) + 1
        self.assertGreater(min(seen[kind] for kind in (None, "below", "above", "between")), 20)

    def test_the_kinds_in_their_order(self):
        for under, over, kind, pair in (
            ((1, 0), (1, 0), "under", None),
            ((4,), None, "under", None),
            ((2,), (1, 0), "over", None),
            ((), (4,), "over", None),
            ((2,), (0,), "below", (2, 0)),
            ((0, 2), (0,), "below", (2, 1)),
            ((1, 2, 3), (0,), "below", (2, 0)),
            ((0, 1), (0,), "above", (0, 2)),
            ((0, 1), (1, 2), "above", (1, 3)),
            ((0, 1), (0, 2, 3), "between", (0, 0)),
            ((0, 1, 2), (2, 3), "between", (2, 2)),
            ((0, 1, 2, 3), (2, 3), "between", (2, 2)),
        ):
            self.assertEqual(fault_of_place(CROWN, under, over), (kind, pair))
            self.assert_refused(CROWN, BadEdit, {"kind": kind, "pair": pair}, "put_point", under, over)

    def test_parts_of_any_form(self):
        for value in STRANGE_VALUES + ((1, 1), (1, 0), (-1,), (0, 4), (0, 1, 2, 3, 4), ("0",), (0, None), ((0,),), (0, 1, "2")):
            if not is_part(CROWN, value):
                self.assert_refused(CROWN, BadEdit, {"kind": "under", "pair": None}, "put_point", value, ())
                self.assert_refused(CROWN, BadEdit, {"kind": "under", "pair": None}, "put_point", value, value)
                self.assert_refused(CROWN, BadEdit, {"kind": "over", "pair": None}, "put_point", (), value)
        self.assert_refused(EMPTY, BadEdit, {"kind": "under", "pair": None}, "put_point", (0,), ())

    def test_too_large_ahead_of_bad_edit(self):
        for order in (chain(64), antichain(64), ring(32)):
            for under, over in (((), ()), (None, None), ((1, 0), ()), ((63,), (0,)), ((64,), ())):
                self.assert_refused(order, TooLarge, {}, "put_point", under, over)
        book = Book(antichain(63))
        self.assertEqual(book.put_point(tuple(range(63)), ()), 63)
        self.assertEqual(book.order, on_top(antichain(63), POINT))


class TestDropPoint(Case):
    def test_all_points(self):
        for order in ORDERS + [chain(64)]:
            for x in range(order[0]):
                self.assert_edit(order, without_point(order, x), "drop_point", x)

    def test_points_behind_it_are_numbered_anew(self):
        book = Book(CROWN)
        self.assertIsNone(book.drop_point(x=1))
        self.assertEqual(book.order, VEE)
        book.drop_point(0)
        self.assertEqual(book.order, antichain(2))
        # What follows through the point stays.
        self.assert_edit(chain(3), chain(2), "drop_point", 1)

    def test_unknown_points(self):
        for order in (EMPTY, POINT, CROWN, chain(64)):
            for x in (-1, order[0], order[0] + 1, 64, HUGE, -HUGE):
                self.assert_refused(order, UnknownPoint, {"point": x}, "drop_point", x)


class TestPutPair(Case):
    def test_all_pairs(self):
        for order in ORDERS:
            for x, y in itertools.product(range(order[0]), repeat=2):
                if is_at_most(order, y, x):
                    self.assert_refused(order, BadEdit, {"kind": "turned", "pair": (x, y)}, "put_pair", x, y)
                else:
                    expected = with_pair(order, x, y)
                    new = tuple(sorted(set(expected[1]) - set(order[1])))
                    self.assert_edit(order, expected, "put_pair", x, y, result=new)
                    self.assertEqual(new == (), (x, y) in order[1])

    def test_the_pairs_that_follow(self):
        book = Book(beside(chain(2), chain(2)))
        self.assertEqual(book.put_pair(x=1, y=2), ((0, 2), (0, 3), (1, 2), (1, 3)))
        self.assertEqual(book.order, chain(4))
        self.assertEqual(book.put_pair(0, 3), ())
        book = Book((4, ((1, 0), (3, 2))))
        self.assertEqual(book.put_pair(0, 3), ((0, 2), (0, 3), (1, 2), (1, 3)))

    def test_an_edit_that_changes_nothing_is_an_edit(self):
        book = Book(chain(2))
        self.assertEqual(book.put_pair(0, 1), ())
        book.undo()
        self.assertEqual(book.order, chain(2))
        self.assertEqual(outcome(book.undo), ("NothingLeft", {}))
        book.redo()
        book.drop_point(0)
        book.undo()
        book.put_pair(0, 1)
        self.assertEqual(outcome(book.redo), ("NothingLeft", {}))

    def test_unknown_points_first_x_then_y(self):
        for order in (EMPTY, POINT, VEE):
            for x in (-1, order[0], HUGE):
                for y in (0, -2, order[0] + 1, -HUGE, x):
                    self.assert_refused(order, UnknownPoint, {"point": x}, "put_pair", x, y)
        for y in (-1, 3, HUGE, -HUGE):
            self.assert_refused(VEE, UnknownPoint, {"point": y}, "put_pair", 0, y)

    def test_64_points(self):
        book = Book(antichain(64))
        for x in range(63):
            self.assertEqual(book.put_pair(x, x + 1), tuple((y, x + 1) for y in range(x + 1)))
        self.assertEqual(book.order, chain(64))
        self.assertEqual(outcome(book.put_pair, 63, 0), ("BadEdit", {"kind": "turned", "pair": (63, 0)}))
        book = Book(beside(chain(32), chain(32)))
        self.assertEqual(book.put_pair(31, 32), tuple(itertools.product(range(32), range(32, 64))))
        self.assertEqual(book.order, chain(64))


class TestDropPair(Case):
    def test_all_pairs(self):
        for order in ORDERS:
            for x, y in itertools.product(range(order[0]), repeat=2):
                if (x, y) in covers(order):
                    expected = (order[0], tuple(pair for pair in order[1] if pair != (x, y)))
                    self.assert_edit(order, expected, "drop_pair", x, y)
                else:
                    self.assert_refused(order, BadEdit, {"kind": "cover", "pair": (x, y)}, "drop_pair", x, y)

    def test_some(self):
        book = Book(chain(3))
        self.assertIsNone(book.drop_pair(x=0, y=1))
        # 0 stays below 2.
        self.assertEqual(book.order, WEDGE)
        self.assertEqual(outcome(Book(chain(3)).drop_pair, 0, 2), ("BadEdit", {"kind": "cover", "pair": (0, 2)}))

    def test_unknown_points_first_x_then_y(self):
        for x, y, point in ((3, 4, 3), (-1, 3, -1), (HUGE, 0, HUGE), (0, 3, 3), (0, -1, -1), (1, -HUGE, -HUGE), (5, 5, 5)):
            self.assert_refused(VEE, UnknownPoint, {"point": point}, "drop_pair", x, y)
        self.assert_refused(EMPTY, UnknownPoint, {"point": 0}, "drop_pair", 0, 0)


class TestWholeOrders(Case):
    def test_put_beside_and_on_top(self):
        for first, second in itertools.product(SMALL_ORDERS[::3] + [CROWN, W], repeat=2):
            self.assert_edit(first, beside(first, second), "put_beside", second)
            self.assert_edit(first, on_top(first, second), "put_on_top", second)
        book = Book(VEE)
        self.assertIsNone(book.put_beside(other=POINT))
        self.assertIsNone(book.put_on_top(other=POINT))
        self.assertEqual(book.order, on_top(beside(VEE, POINT), POINT))

    def test_too_large(self):
        for order, other in ((chain(64), POINT), (POINT, antichain(64)), (chain(33), chain(32)), (ring(32), ring(32))):
            self.assert_refused(order, TooLarge, {}, "put_beside", other)
            self.assert_refused(order, TooLarge, {}, "put_on_top", other)
        self.assert_edit(chain(63), chain(64), "put_on_top", POINT)
        self.assert_edit(antichain(60), antichain(64), "put_beside", antichain(4))
        self.assert_edit(EMPTY, ring(32), "put_beside", ring(32))

    def test_turn(self):
        for order in ORDERS + [chain(64)]:
            self.assert_edit(order, opposite(order), "turn")
        book = Book(CROWN)
        book.turn()
        book.turn()
        self.assertEqual(book.order, CROWN)
        book.undo()
        self.assertEqual(book.order, opposite(CROWN))


class TestUndoAndRedo(Case):
    def test_nothing_left_at_both_ends(self):
        book = Book(VEE)
        for _ in range(3):
            self.assertEqual(outcome(book.undo), ("NothingLeft", {}))
            self.assertEqual(outcome(book.redo), ("NothingLeft", {}))
            self.assertEqual(book.order, VEE)
        book.turn()
        self.assertEqual(outcome(book.redo), ("NothingLeft", {}))
        book.undo()
        self.assertEqual(outcome(book.undo), ("NothingLeft", {}))
        book.redo()
        self.assertEqual(outcome(book.redo), ("NothingLeft", {}))
        self.assertEqual(book.order, WEDGE_TURNED)
        with self.assertRaises(NothingLeft):
            book.redo()

    def test_a_new_edit_takes_away_what_could_be_redone(self):
        book = Book(EMPTY)
        for _ in range(4):
            book.put_point((), ())
        for _ in range(3):
            book.undo()
        self.assertEqual(book.order, antichain(1))
        book.put_on_top(POINT)
        self.assertEqual(outcome(book.redo), ("NothingLeft", {}))
        self.assertEqual(book.order, chain(2))
        book.undo()
        self.assertEqual(book.order, antichain(1))
        book.undo()
        self.assertEqual(book.order, EMPTY)
        book.redo()
        book.redo()
        self.assertEqual(book.order, chain(2))

    def test_an_edit_that_is_refused_is_none(self):
        book = Book(chain(3))
        book.turn()
        book.turn()
        book.undo()
        for call, arguments in (
            (book.put_point, ((0,), ())),
            (book.drop_point, (3,)),
            (book.put_pair, (1, 2)),
            (book.drop_pair, (2, 0)),
            (book.put_beside, (chain(62),)),
            (book.put_on_top, (chain(62),)),
        ):
            self.assertNotEqual(outcome(call, *arguments)[0], "returned")
        self.assertEqual(book.order, opposite(chain(3)))
        book.redo()
        self.assertEqual(book.order, chain(3))
        self.assertEqual(outcome(book.redo), ("NothingLeft", {}))
        book.undo()
        book.undo()
        self.assertEqual(book.order, chain(3))
        self.assertEqual(outcome(book.undo), ("NothingLeft", {}))

    def test_redo_in_the_order_of_the_edits(self):
        book = Book(EMPTY)
        orders = [book.order]
        for k in range(20):
            book.put_point(tuple(range(k)) if k % 2 else (), ()) if k % 3 else book.put_on_top(POINT)
            orders.append(book.order)
        self.assertEqual(len(set(orders)), 21)
        for expected in orders[-2::-1]:
            book.undo()
            self.assertEqual(book.order, expected)
        for expected in orders[1:]:
            book.redo()
            self.assertEqual(book.order, expected)

    def test_many_edits_of_a_large_order(self):
        book = Book(chain(64))
        for _ in range(600):
            book.turn()
        for _ in range(599):
            book.undo()
        self.assertEqual(book.order, opposite(chain(64)))
        for _ in range(599):
            book.redo()
        self.assertEqual(book.order, chain(64))
        self.assertEqual(outcome(book.redo), ("NothingLeft", {}))


WEDGE_TURNED = opposite(VEE)


class Model:
    """A book as the document tells it, that goes back to whole orders."""

    def __init__(self, order):
        self.orders = [order]
        self.at = 0

    def edit(self, order):
        self.orders = self.orders[: self.at + 1] + [order]
        self.at += 1


def random_edit(order, source):
    """An edit that may be refused: a name and arguments."""
    n = order[0]
    points = [source.randrange(-1, n + 1) for _ in range(2)]
    under = tuple(x for x in range(n) if source.random() < 0.15)
    under = tuple(sorted(set(under) | {x for x, y in order[1] if y in under}))
    over = tuple(y for y in range(n) if all((x, y) in order[1] for x in under))
    over = over if source.random() < 0.7 else ()
    other = source.choice((EMPTY, POINT, chain(2), VEE, CROWN, antichain(63)))
    return source.choice(
        (
            ("put_point", under, over),
            ("put_point", under, ()),
            ("put_point", tuple(points), ()),
            ("drop_point", points[0]),
            ("put_pair", *points),
            ("put_pair", *points),
            ("drop_pair", *points),
            ("drop_pair", *(source.choice(covers(order)) if covers(order) else points)),
            ("put_beside", other),
            ("put_on_top", other),
            ("turn",),
            ("undo",),
            ("undo",),
            ("redo",),
        )
    )


def edited(order, name, *arguments):
    """The order behind an edit, word by word, or None if it is refused."""
    n, pairs = order
    points = [x for x in arguments if isinstance(x, int)]
    if any(x not in range(n) for x in points):
        return None
    if name == "put_point":
        return None if n == 64 or fault_of_place(order, *arguments) else with_point(order, *arguments)
    if name == "drop_point":
        return without_point(order, *arguments)
    if name == "put_pair":
        return None if is_at_most(order, points[1], points[0]) else with_pair(order, *points)
    if name == "drop_pair":
        return (n, tuple(pair for pair in pairs if pair != arguments)) if arguments in covers(order) else None
    if name == "turn":
        return (n, tuple(sorted((y, x) for x, y in pairs)))
    other = arguments[0]
    if n + other[0] > 64:
        return None
    moved = {(x + n, y + n) for x, y in other[1]}
    if name == "put_on_top":
        moved |= set(itertools.product(range(n), range(n, n + other[0])))
    return (n + other[0], tuple(sorted(set(pairs) | moved)))


class TestManyEdits(Case):
    def test_random_edits_against_the_words(self):
        source = random.Random(244)
        seen = {}
        for _ in range(40):
            order = source.choice(ORDERS)
            book, model = Book(order), Model(order)
            for _ in range(60):
                present = model.orders[model.at]
                if present[0] > 12:
                    book.drop_point(0)
                    model.edit(without_point(present, 0))
                    continue
                name, *arguments = random_edit(present, source)
                made = outcome(getattr(book, name), *arguments)[0] == "returned"
                if name in ("undo", "redo"):
                    at = model.at + (1 if name == "redo" else -1)
                    self.assertEqual(made, at in range(len(model.orders)))
                    model.at = at if made else model.at
                else:
                    expected = edited(present, name, *arguments)
                    self.assertEqual(made, expected is not None)
                    if made:
                        model.edit(expected)
                self.assertEqual(book.order, model.orders[model.at])
                seen[name, made] = seen.get((name, made), 0) + 1
        self.assertGreater(min(seen.values()), 4)
        self.assertEqual(len(seen), 17)

    def test_equal_orders_made_in_other_ways(self):
        book = Book(EMPTY)
        book.put_point((), ())
        book.put_on_top(POINT)
        book.put_beside(chain(2))
        book.put_pair(0, 3)
        book.put_pair(2, 1)
        self.assertEqual(book.order, CROWN_MIXED)
        book.turn()
        book.turn()
        book.drop_pair(0, 3)
        book.undo()
        self.assertEqual(book.order, order_of(4, ((0, 1), (2, 3), (2, 1), (0, 3))))
        self.assertEqual(hash(book.order), hash(CROWN_MIXED))
        book = Book(chain(2))
        book.put_beside(EMPTY)
        self.assertEqual(book.order, product(chain(2), POINT))


CROWN_MIXED = (4, ((0, 1), (0, 3), (2, 1), (2, 3)))
