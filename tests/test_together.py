"""What the document says of functions of several files together: [21], [25], [29], [36], [38] to [40], [53] to [57], [59]."""

import itertools
import random
import unittest

from strikecore.books import Book
from strikecore.building import beside, induced, on_top, opposite, product
from strikecore.chains import euler, homology, moebius
from strikecore.cores import core, core_points, core_strikes, is_contractible, strike_map
from strikecore.desk import Desk
from strikecore.errors import BadOrder, StrikeError
from strikecore.families import closures, crown, interiors, map_order, sphere, symmetries, turns
from strikecore.fixed import fixed_points, lefschetz
from strikecore.led import check_led, led
from strikecore.maps import all_maps, are_neighbours, check_map, compose, count_maps, identity_map
from strikecore.orders import check_order, covers, greatest, is_connected, least, pieces
from strikecore.shapes import check_shape, same_shape, shape_maps
from strikecore.strikes import is_core, points_left
from strikecore.texts import read_order, read_row, read_strikes, write_order, write_row, write_strikes
from strikecore.weak import weak_left, weak_row
from tests.reference import CROWN, EMPTY, HUGE, POINT, SMALL_ORDERS, VEE, WEDGE
from tests.reference import antichain, are_alike, chain, random_orders, random_row, ring, shuffled
from tests.test_fixed import STUCK
from tests.test_general import CALLS, FAILURES
from tests.test_weak import W

ORDERS = SMALL_ORDERS + [CROWN, W, ring(3), product(CROWN, chain(2))] + random_orders(15, 6, 271, smallest=4)
FEW_ORDERS = [EMPTY, POINT, chain(2), antichain(2), VEE, WEDGE, CROWN]


def made_by_edits(order, source):
    """An equal order, made in a book by many edits."""
    book = Book(antichain(2))
    book.drop_point(1)
    book.drop_point(0)
    for x in range(order[0]):
        book.put_point((), ())
        if source.random() < 0.3:
            book.turn()
            book.undo()
    links = list(covers(order))
    source.shuffle(links)
    for x, y in links:
        book.put_pair(x, y)
    for x, y in links[:3]:
        book.drop_pair(x, y)
        book.undo()
    book.turn()
    if order[0] < 64:
        book.put_beside(POINT)
        book.drop_point(order[0])
    book.turn()
    book.put_on_top(EMPTY)
    return book.order


def outcome(function, *arguments):
    try:
        return ("returned", function(*arguments))
    except StrikeError as error:
        return (type(error), vars(error))


def is_order(value):
    """Whether an argument is an order that a book can keep."""
    try:
        check_order(value)
    except BadOrder:
        return False
    return True


class TestOrdersOfBooks(unittest.TestCase):
    """[59]"""

    def test_edits_lead_to_equal_orders(self):
        source = random.Random(272)
        for order in ORDERS + [chain(64), antichain(64), ring(32)]:
            made = made_by_edits(order, source)
            self.assertEqual(made, order)
            self.assertIsNone(check_order(made))
            self.assertEqual(repr(made), repr(order))

    def test_all_functions(self):
        source = random.Random(273)
        many = 0
        for function, arguments in CALLS:
            edited = [made_by_edits(value, source) if is_order(value) else value for value in arguments.values()]
            many += any(is_order(value) for value in edited)
            self.assertEqual(function(*edited), function(*arguments.values()))
        self.assertGreater(many, 70)

    def test_all_errors(self):
        source = random.Random(274)
        for function, arguments in FAILURES:
            if not hasattr(function, "__self__"):
                edited = [made_by_edits(value, source) if is_order(value) else value for value in arguments]
                self.assertEqual(outcome(function, *edited), outcome(function, *arguments))

    def test_random_edits(self):
        source = random.Random(275)
        for _ in range(30):
            desk = Desk("order 3\n\n\n")
            for _ in range(30):
                n = desk.order[0]
                x, y = source.randrange(n + 1), source.randrange(n + 1)
                outcome(desk.answer, source.choice((f"tie {x} {y}", f"cut {x} {y}", "put . .", f"put {x} .", "turn", "undo")))
            order = desk.order
            other = (order[0], tuple(sorted(list(order[1]))))
            self.assertEqual(core_strikes(order), core_strikes(other))
            self.assertEqual(weak_row(order), weak_row(other))
            self.assertEqual(euler(order), euler(other))
            self.assertEqual(read_order(write_order(order)), order)
            self.assertEqual(desk.answer("core"), ",".join(map(str, core_points(other))))

    def test_orders_of_one_shape_stay_so_when_a_strike_is_made_in_a_book(self):
        for order in ORDERS:
            book = Book(order)
            for strike in core_strikes(order)[:1]:
                book.drop_point(strike[0])
                self.assertIs(is_contractible(book.order), is_contractible(order))
                self.assertEqual(euler(book.order), euler(order))
                book.undo()
            self.assertEqual(book.order, order)


class TestContractibleOrders(unittest.TestCase):
    """[21], [36], [39]"""

    def test_the_identity_is_led_into_a_map_to_one_point(self):
        for order in [order for order in ORDERS if 0 < order[0] <= 5]:
            start = identity_map(order)
            found = [led(order, order, start, (x,) * order[0])[0] == "led" for x in range(order[0])]
            self.assertEqual(any(found), is_contractible(order))

    def test_least_and_greatest_points(self):
        for order in ORDERS + [on_top(POINT, W), on_top(W, POINT), chain(64), antichain(64)]:
            if least(order) is not None or greatest(order) is not None:
                self.assertIs(is_contractible(order), True)
        self.assertIs(is_contractible(EMPTY), False)
        self.assertIs(is_contractible(W), False)
        self.assertIs(is_contractible(STUCK), True)

    def test_maps_from_and_into_contractible_orders(self):
        for first, second in itertools.product(FEW_ORDERS, repeat=2):
            if is_contractible(second) or (is_contractible(first) and is_connected(second)):
                rows = all_maps(first, second)
                for row in rows[::7]:
                    answer = led(first, second, rows[0], row)
                    self.assertEqual(answer[0], "led")
                    self.assertIs(check_led(first, second, rows[0], row, answer), True)
                if len(rows) <= 64:
                    self.assertIs(is_connected(map_order(first, second)), True)

    def test_fixed_points(self):
        for order in [order for order in ORDERS if order[0] <= 5]:
            if is_contractible(order):
                for row in all_maps(order, order):
                    self.assertEqual(lefschetz(order, row), 1)
                    self.assertNotEqual(fixed_points(order, row), ())

    def test_the_identity_of_a_core_is_led_into_no_other_map(self):
        for order in (CROWN, ring(3), antichain(3), W):
            self.assertIs(is_core(order), True)
            for row in symmetries(order) if order[0] <= 8 else [(0,) * 9]:
                answer = led(order, order, identity_map(order), row)
                self.assertEqual(answer[0] == "led", row == identity_map(order))
                if answer[0] == "not":
                    self.assertEqual(answer[3], (identity_map(order),))


class TestOrdersOfOneShape(unittest.TestCase):
    """[25], [29], [38], [40]"""

    def test_what_rows_leave(self):
        source = random.Random(276)
        for order in ORDERS:
            row = random_row(order, source, source.randint(0, 3))
            part = induced(order, points_left(order, row))
            if core(order)[0] <= 8:
                answer = same_shape(order, part)
                self.assertEqual(answer[0], "yes")
                self.assertIs(check_shape(order, part, answer), True)
                f, g, first_fence, second_fence = shape_maps(order, part, answer)
                self.assertEqual((first_fence[-1], second_fence[-1]), (compose(f, g), compose(g, f)))
            self.assertTrue(are_alike(core(part), core(order)) if core(order)[0] <= 6 else True)
            self.assertEqual(euler(part), euler(order))
            self.assertEqual(homology(part), homology(order))

    def test_orders_with_alike_cores_and_no_others(self):
        seen = set()
        for first, second in itertools.product(FEW_ORDERS + [ring(3), beside(VEE, POINT), on_top(CROWN, POINT)], repeat=2):
            word = same_shape(first, second)[0]
            self.assertEqual(word == "yes", are_alike(core(first), core(second)))
            if word == "yes":
                self.assertEqual(homology(first), homology(second))
            seen.add(word)
        self.assertEqual(seen, {"yes", "no"})

    def test_cores_of_orders_that_are_put_together(self):
        for first, second in itertools.product(FEW_ORDERS, repeat=2):
            both = beside(first, second)
            self.assertTrue(are_alike(core(both), beside(core(first), core(second))))
            self.assertEqual(euler(both), euler(first) + euler(second))
            whole = product(first, second)
            self.assertEqual(euler(whole), euler(first) * euler(second))
            if core(first)[0] * core(second)[0] <= 8:
                self.assertTrue(are_alike(core(whole), product(core(first), core(second))))
            if first[0] and second[0]:
                joint = is_contractible(first) or is_contractible(second)
                self.assertIs(is_contractible(on_top(first, second)), joint)
            self.assertTrue(are_alike(core(opposite(first)), opposite(core(first))))

    def test_values_of_maps_that_are_neighbours_of_the_identity(self):
        for order in [order for order in ORDERS if order[0] <= 5]:
            for row in all_maps(order, order):
                if compose(row, row) == row and are_neighbours(order, row, identity_map(order)):
                    part = induced(order, tuple(sorted(set(row))))
                    self.assertEqual(same_shape(order, part)[0], "yes")

    def test_closures_interiors_and_strike_maps(self):
        for order in ORDERS:
            for row in closures(order) + interiors(order):
                part = induced(order, tuple(sorted(set(row))))
                self.assertEqual(homology(part), homology(order))
                self.assertIs(are_neighbours(order, row, identity_map(order)), True)
            strikes = core_strikes(order)
            for strike in strikes[:1]:
                row = strike_map(order, (strike,))
                self.assertIn(row, closures(order) if strike[1] == "up" else interiors(order))
            alone = closures(order) + interiors(order) == (identity_map(order),) * 2
            self.assertEqual(alone, strikes == ())

    def test_euler_numbers(self):
        for order in ORDERS + [sphere(4), crown(5)]:
            bounded = on_top(on_top(POINT, order), POINT)
            self.assertEqual(moebius(bounded, 0, order[0] + 1), euler(order) - 1)
            points = range(order[0])
            self.assertEqual(euler(order), sum(moebius(order, x, y) for x in points for y in points))
            numbers = homology(order)
            self.assertEqual(sum(numbers[::2]) - sum(numbers[1::2]), euler(order))
            left = induced(order, weak_left(order, weak_row(order)))
            self.assertEqual((euler(left), homology(left)), (euler(order), numbers))


class TestFamilies(unittest.TestCase):
    """[53], [56], [57]"""

    def test_map_orders(self):
        for first, second in itertools.product(FEW_ORDERS, repeat=2):
            if count_maps(first, second) <= 64:
                order = map_order(first, second)
                rows = all_maps(first, second)
                self.assertEqual(order[0], len(rows))
                home = {f: piece[0] for piece in pieces(order) for f in piece}
                for f, g in itertools.product(range(0, len(rows), 4), repeat=2):
                    word = led(first, second, rows[f], rows[g])[0]
                    self.assertEqual(word == "led", home[f] == home[g])

    def test_spheres_and_crowns(self):
        self.assertEqual(crown(2), CROWN)
        self.assertEqual(sphere(1), CROWN)
        self.assertEqual([homology(sphere(k)) for k in (0, 1, 2, 3, 4)], [(2,), (1, 1), (1, 0, 1), (1, 0, 0, 1), (1, 0, 0, 0, 1)])
        self.assertEqual([homology(crown(k)) for k in (2, 3, 4, 5)], [(1, 1)] * 4)
        for k, m in itertools.combinations(range(2, 33, 5), 2):
            self.assertEqual(same_shape(crown(k), crown(m))[0], "no")
        for k in range(32):
            self.assertEqual(core_strikes(sphere(k)), ())
            self.assertEqual(core_strikes(crown(k + 1 if k else 2)), ())

    def test_turns(self):
        for k, m in itertools.product((2, 3, 4), (2, 3)):
            rows = all_maps(crown(k), crown(m))
            first = {}
            for row in rows[:: max(1, len(rows) // 80)]:
                first.setdefault(turns(k, m, row), row)
                word = led(crown(k), crown(m), row, first[turns(k, m, row)])[0]
                if word == "led":
                    continue
                # Maps that go round as often as they can, may still be apart.
                self.assertGreater(abs(turns(k, m, row)), 0)
            for one, other in itertools.combinations(first, 2):
                self.assertEqual(led(crown(k), crown(m), first[one], first[other])[0], "not")

    def test_lefschetz_numbers_of_crowns(self):
        for k in (2, 3):
            for row in all_maps(crown(k), crown(k)):
                self.assertIsNone(check_map(crown(k), crown(k), row))
                self.assertEqual(lefschetz(crown(k), row), 1 - turns(k, k, row))


class TestTexts(unittest.TestCase):
    def test_what_functions_return_can_be_written_and_read(self):
        source = random.Random(277)
        for order in ORDERS + [STUCK, shuffled(STUCK, source), chain(64), crown(32), sphere(31)]:
            self.assertEqual(read_order(write_order(order)), order)
            for strikes in (core_strikes(order), weak_row(order)):
                self.assertEqual(read_strikes(write_strikes(strikes)), strikes)
            row = strike_map(order, core_strikes(order))
            self.assertEqual(read_row(write_row(row)), row)
            self.assertEqual(Desk(write_order(order)).answer("row"), write_strikes(core_strikes(order)))

    def test_books_take_what_was_read(self):
        self.assertEqual(Book(read_order(write_order(W))).order, W)
        self.assertEqual(outcome(Book(W).drop_point, HUGE)[1], {"point": HUGE})
