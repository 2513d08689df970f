"""[2], [3]: rules that hold for every function."""

import unittest

from strikecore import alike, building, chains, collapses, cores, coverings, families, fibres, firm, fixed, joined, led
from strikecore import maps, orders, quotients, shapes, steps, strikes, texts, weak
from strikecore.books import Book
from strikecore.desk import Desk
from strikecore.errors import StrikeError, TooLarge
from tests.reference import CROWN, EMPTY, HUGE, VEE, antichain, chain, is_plain

STEPS = ((1, 1), (2, 2))
ROWS = ((0, 0, 0), (0, 1, 2), (0, 1, 0))
STRIKES = ((1, "down"), (0, "up"))
WEAK_STRIKES = ((1, "below"), (0, "above"))
APART = ("not", (), (), ((0, 1, 2, 3),))
PAIRS = (((1,), (0, 1)), ((2,), (0, 2)))
SHAPE = ("yes", ((1, "down"),), ((2, "down"),), (0, 1))
FREE = ("free", (1, 0, 3, 2))
JOINED = ("joined", WEAK_STRIKES[:1], WEAK_STRIKES[:1], (0, 1))
TABLE = ((0, 1, (1, 0)), (0, 2, (0, 1)))

# Each function with arguments by their names, in their order.
CALLS = (
    (orders.check_order, {"value": CROWN}),
    (orders.order_of, {"n": 3, "links": ((2, 1), (0, 2))}),
    (orders.covers, {"order": CROWN}),
    (orders.below, {"order": CROWN, "x": 2}),
    (orders.above, {"order": CROWN, "x": 1}),
    (orders.is_below, {"order": CROWN, "x": 1, "y": 2}),
    (orders.minimal, {"order": CROWN}),
    (orders.maximal, {"order": CROWN}),
    (orders.least, {"order": VEE}),
    (orders.greatest, {"order": VEE}),
    (orders.pieces, {"order": antichain(3)}),
    (orders.is_connected, {"order": VEE}),
    (building.induced, {"order": CROWN, "points": (0, 2, 3)}),
    (building.opposite, {"order": VEE}),
    (building.beside, {"first": VEE, "second": CROWN}),
    (building.on_top, {"first": VEE, "second": CROWN}),
    (building.product, {"first": VEE, "second": CROWN}),
    (maps.check_map, {"first": VEE, "second": CROWN, "row": (0, 2, 3)}),
    (maps.identity_map, {"order": VEE}),
    (maps.compose, {"row": (1, 0, 1), "after": (2, 3)}),
    (maps.at_most, {"second": VEE, "low": (0, 1), "high": (1, 1)}),
    (maps.are_neighbours, {"second": VEE, "row": (1, 1), "other": (0, 1)}),
    (maps.count_maps, {"first": VEE, "second": CROWN}),
    (maps.all_maps, {"first": VEE, "second": CROWN}),
    (steps.apply_steps, {"first": VEE, "second": VEE, "row": (0, 0, 0), "steps": STEPS}),
    (steps.steps_up, {"first": VEE, "second": VEE, "low": (0, 0, 0), "high": (0, 1, 2)}),
    (steps.steps_down, {"first": VEE, "second": VEE, "high": (0, 1, 2), "low": (0, 0, 0)}),
    (steps.check_fence, {"first": VEE, "second": VEE, "rows": ROWS}),
    (steps.fence_steps, {"first": VEE, "second": VEE, "rows": ROWS}),
    (strikes.strikes_of, {"order": VEE, "points": (0, 1)}),
    (strikes.partner, {"order": VEE, "points": (0, 1), "strike": (1, "down")}),
    (strikes.points_left, {"order": VEE, "strikes": STRIKES[:1]}),
    (strikes.is_finished, {"order": VEE, "strikes": STRIKES}),
    (strikes.is_core, {"order": VEE}),
    (cores.core_strikes, {"order": VEE}),
    (cores.core_points, {"order": VEE}),
    (cores.core, {"order": VEE}),
    (cores.strike_map, {"order": VEE, "strikes": STRIKES}),
    (cores.strike_fence, {"order": VEE, "strikes": STRIKES}),
    (cores.is_contractible, {"order": VEE}),
    (alike.renaming_of, {"first": CROWN, "second": CROWN}),
    (alike.is_renaming, {"first": VEE, "second": VEE, "value": (0, 2, 1)}),
    (quotients.quotient, {"order": CROWN, "labels": (7, 7, HUGE, -1)}),
    (quotients.test_counts, {"test": VEE, "first": VEE, "second": CROWN}),
    (quotients.find_test, {"first": CROWN, "second": antichain(4)}),
    (shapes.same_shape, {"first": VEE, "second": CROWN}),
    (shapes.check_shape, {"first": VEE, "second": VEE, "answer": SHAPE}),
    (shapes.shape_maps, {"first": VEE, "second": VEE, "answer": SHAPE}),
    (firm.firm, {"order": VEE, "part": (1,)}),
    (firm.check_firm, {"order": VEE, "part": (0, 2), "answer": ("firm", STRIKES[:1])}),
    (led.core_map, {"first": VEE, "second": CROWN, "row": (0, 2, 3)}),
    (led.list_piece, {"first": VEE, "second": CROWN, "row": (0, 2, 3)}),
    (led.led, {"first": VEE, "second": VEE, "start": (0, 0, 0), "goal": (0, 1, 2)}),
    (led.led, {"first": CROWN, "second": CROWN, "start": (0, 1, 2, 3), "goal": (1, 0, 3, 2)}),
    (
        led.check_led,
        {"first": CROWN, "second": CROWN, "start": (0, 1, 2, 3), "goal": (1, 0, 3, 2), "answer": APART},
    ),
    (chains.chains, {"order": CROWN}),
    (chains.chain_counts, {"order": CROWN}),
    (chains.euler, {"order": VEE}),
    (chains.moebius, {"order": CROWN, "x": 1, "y": 3}),
    (chains.homology, {"order": CROWN}),
    (weak.weak_strikes_of, {"order": VEE, "points": (0, 1)}),
    (weak.weak_left, {"order": VEE, "strikes": WEAK_STRIKES[:1]}),
    (weak.weak_row, {"order": VEE}),
    (collapses.collapses, {"order": VEE, "strikes": WEAK_STRIKES}),
    (collapses.check_collapses, {"order": VEE, "points": (0,), "value": PAIRS}),
    (fixed.fixed_points, {"order": VEE, "row": (0, 2, 1)}),
    (fixed.lefschetz, {"order": VEE, "row": (0, 2, 1)}),
    (fixed.fixed_answer, {"order": VEE}),
    (fixed.fixed_answer, {"order": CROWN}),
    (fixed.check_fixed, {"order": CROWN, "answer": FREE}),
    (joined.joined, {"first": VEE, "second": CROWN}),
    (joined.joined, {"first": CROWN, "second": CROWN}),
    (joined.check_joined, {"first": VEE, "second": VEE, "answer": JOINED}),
    (fibres.fibre, {"first": VEE, "second": CROWN, "row": (0, 2, 3), "q": 2}),
    (fibres.adjoint, {"first": chain(3), "second": chain(2), "row": (0, 0, 1)}),
    (fibres.cylinder, {"first": VEE, "second": CROWN, "row": (0, 2, 3)}),
    (fibres.onto_second, {"first": VEE, "second": CROWN, "row": (0, 2, 3)}),
    (fibres.onto_first, {"first": VEE, "second": chain(2), "row": (0, 1, 1)}),
    (coverings.check_table, {"order": VEE, "sheets": 2, "table": TABLE}),
    (coverings.along, {"order": VEE, "sheets": 2, "table": TABLE, "x": 0, "y": 1}),
    (coverings.covering, {"order": VEE, "sheets": 2, "table": TABLE}),
    (coverings.sheet_map, {"order": VEE, "sheets": 2}),
    (coverings.lift, {"base": chain(2), "order": VEE, "sheets": 2, "table": TABLE, "row": (0, 1)}),
    (coverings.alike_over, {"order": VEE, "sheets": 2, "table": TABLE, "other": TABLE}),
    (coverings.drop_covering, {"order": VEE, "sheets": 2, "table": TABLE, "strike": (1, "down")}),
    (
        coverings.grow_covering,
        {"order": VEE, "sheets": 2, "strike": (2, "down"), "table": TABLE[:1]},
    ),
    (families.map_order, {"first": VEE, "second": VEE}),
    (families.symmetries, {"order": CROWN}),
    (families.closures, {"order": chain(3)}),
    (families.interiors, {"order": VEE}),
    (families.sphere, {"k": 2}),
    (families.crown, {"k": 3}),
    (families.turns, {"k": 2, "m": 2, "row": (0, 1, 3, 2)}),
    (texts.write_order, {"order": CROWN}),
    (texts.read_order, {"text": "order 3\n\n0\n0 1"}),
    (texts.write_row, {"row": (0, 2, 63)}),
    (texts.read_row, {"text": "0 2 63"}),
    (texts.write_strikes, {"strikes": STRIKES + WEAK_STRIKES}),
    (texts.read_strikes, {"text": "0 up, 3 below"}),
)

# The same for the methods of a book, or of a desk.
METHODS = (
    ("put_point", {"under": (0, 1), "over": ()}),
    ("drop_point", {"x": 2}),
    ("put_pair", {"x": 0, "y": 1}),
    ("drop_pair", {"x": 1, "y": 3}),
    ("put_beside", {"other": VEE}),
    ("put_on_top", {"other": VEE}),
    ("turn", {}),
)
LINES = ("put 0,1 .", "drop 2", "tie 0 1", "cut 1 3", "turn", "core", "row", "euler", "homology", "fixed", "text", "same")

FAILURES = (
    (orders.check_order, ((3, ((0, 1), (1, 2))),)),
    (orders.check_order, (None,)),
    (orders.order_of, (2, ((0, HUGE),))),
    (orders.order_of, (3, ((2, 1), (1, 2)))),
    (maps.check_map, (VEE, VEE, (1, 0, 0))),
    (maps.check_map, (VEE, VEE, None)),
    (steps.apply_steps, (VEE, VEE, (0, 0, 0), ((1, 1), (1, 1)))),
    (steps.steps_up, (VEE, VEE, (0, 1, 1), (0, 0, 0))),
    (steps.steps_down, (VEE, VEE, (0, 0, 0), (0, 1, 1))),
    (strikes.partner, (CROWN, (0, 1, 2, 3), (0, "up"))),
    (strikes.points_left, (VEE, ((1, "down"), (1, "down")))),
    (cores.strike_map, (VEE, ((0, "up"),))),
    (building.product, (chain(8), chain(9))),
    (alike.renaming_of, (chain(9), chain(9))),
    (quotients.test_counts, (chain(9), VEE, VEE)),
    (quotients.find_test, (EMPTY, chain(9))),
    (shapes.same_shape, (antichain(9), antichain(9))),
    (shapes.shape_maps, (VEE, CROWN, ("no", STRIKES, (), (1, ())))),
    (shapes.shape_maps, (VEE, VEE, None)),
    (led.list_piece, (chain(64), chain(64), (0,) * 64)),
    (led.led, (chain(17), VEE, (0,) * 17, (0,) * 17)),
    (chains.chains, (chain(11),)),
    (chains.homology, (antichain(11),)),
    (weak.weak_left, (VEE, ((1, "below"), (1, "below")))),
    (collapses.collapses, (VEE, ((0, "below"),))),
    (collapses.collapses, (chain(11), ((0, "below"),))),
    (collapses.check_collapses, (chain(11), (), ())),
    (fixed.fixed_answer, (antichain(9),)),
    (joined.joined, (antichain(9), antichain(9))),
    (fibres.cylinder, (chain(64), VEE, (0,) * 64)),
    (fibres.onto_second, (chain(64), VEE, (0,) * 64)),
    (fibres.onto_first, (chain(64), VEE, (0,) * 64)),
    (fibres.onto_first, (VEE, chain(2), (1, 1, 1))),
    (coverings.check_table, (VEE, 5, TABLE)),
    (coverings.check_table, (VEE, 2, None)),
    (coverings.check_table, (building.product(chain(2), chain(2)), 2, TABLE + ((1, 3, (0, 1)), (2, 3, (0, 1))))),
    (coverings.along, (VEE, 2, TABLE, 1, 2)),
    (coverings.covering, (chain(17), 2, ())),
    (coverings.sheet_map, (VEE, 0)),
    (coverings.lift, (CROWN, VEE, 2, TABLE, (0, 0, 0, 0))),
    (coverings.lift, (chain(2), VEE, 2, TABLE, (1, 1))),
    (coverings.alike_over, (chain(17), 2, (), ())),
    (coverings.drop_covering, (VEE, 2, TABLE, (0, "up"))),
    (coverings.grow_covering, (VEE, 2, (HUGE, "up"), TABLE[:1])),
    (families.map_order, (antichain(3), antichain(5))),
    (families.symmetries, (chain(9),)),
    (families.closures, (chain(11),)),
    (families.interiors, (chain(11),)),
    (families.sphere, (32,)),
    (families.crown, (33,)),
    (texts.read_order, ("order 1\n\n",)),
    (texts.read_order, ("order 2\n1\n0",)),
    (texts.read_row, ("64",)),
    (texts.read_strikes, ("0 beside",)),
    (Book, ((2, ((0, 1), (1, 0))),)),
    (Book(CROWN).put_point, ((2,), ())),
    (Book(CROWN).put_point, (None, ())),
    (Book(chain(64)).put_point, ((), ())),
    (Book(CROWN).drop_point, (HUGE,)),
    (Book(CROWN).put_pair, (2, 0)),
    (Book(CROWN).put_pair, (0, -1)),
    (Book(CROWN).drop_pair, (0, 1)),
    (Book(CROWN).drop_pair, (4, 0)),
    (Book(CROWN).put_beside, (chain(61),)),
    (Book(CROWN).put_on_top, (chain(61),)),
    (Book(CROWN).undo, ()),
    (Book(CROWN).redo, ()),
    (Desk, ("order 1",)),
    (Desk("order 2\n\n0").answer, ("put 1 .",)),
    (Desk("order 2\n\n0").answer, ("drop",)),
)

# The functions that return True or False without saying so by their names.
YES_OR_NO = (
    maps.at_most,
    steps.check_fence,
    shapes.check_shape,
    firm.check_firm,
    led.check_led,
    collapses.check_collapses,
    fixed.check_fixed,
    joined.check_joined,
)

# The functions of one order that raise TooLarge for some orders of up to 64 points.
WITH_BOUNDS = (
    (chains.chains, chains.homology, fixed.fixed_answer)
    + (families.symmetries, families.closures, families.interiors)
)


class TestGeneralRules(unittest.TestCase):
    def test_arguments_by_place_and_by_name(self):
        for function, arguments in CALLS:
            with self.subTest(function.__name__):
                by_place = function(*arguments.values())
                by_name = function(**arguments)
                self.assertEqual(by_place, by_name)
                self.assertTrue(is_plain(by_place) or isinstance(by_place, bool))

    def test_equal_calls_have_equal_results_and_arguments_stay(self):
        before = repr(CALLS)
        results = [function(**arguments) for function, arguments in CALLS]
        again = [function(**arguments) for function, arguments in CALLS]
        self.assertEqual(results, again)
        self.assertEqual(repr(CALLS), before)

    def test_errors(self):
        for function, arguments in FAILURES:
            with self.subTest(function.__name__, arguments=arguments):
                with self.assertRaises(StrikeError) as caught:
                    function(*arguments)
                told = vars(caught.exception)
                with self.assertRaises(type(caught.exception)) as again:
                    function(*arguments)
                self.assertEqual(vars(again.exception), told)
                self.assertTrue(all(is_plain(value) for value in told.values()))

    def test_methods_by_place_and_by_name(self):
        before = repr(METHODS)
        for name, arguments in METHODS:
            with self.subTest(name):
                by_place, by_name = Book(CROWN), Book(order=CROWN)
                found = getattr(by_place, name)(*arguments.values())
                self.assertEqual(found, getattr(by_name, name)(**arguments))
                self.assertEqual(by_place.order, by_name.order)
                self.assertTrue(is_plain(found) and is_plain(by_place.order))
        self.assertEqual(repr(METHODS), before)

    def test_lines_by_place_and_by_name(self):
        text = texts.write_order(CROWN)
        for line in LINES:
            by_place, by_name = Desk(text), Desk(text=text)
            found = by_place.answer(line)
            self.assertIs(type(found), str)
            self.assertEqual(found, by_name.answer(line=line))
            self.assertEqual(by_place.order, by_name.order)
            self.assertTrue(is_plain(by_place.order))

    def test_true_and_false_are_returned_themselves(self):
        for function, arguments in CALLS:
            if function.__name__.startswith(("is_", "are_")) or function in YES_OR_NO:
                self.assertIs(type(function(**arguments)), bool)

    def test_checks_return_none(self):
        self.assertIsNone(orders.check_order(EMPTY))
        self.assertIsNone(maps.check_map(EMPTY, EMPTY, ()))

    def test_too_large_comes_first(self):
        for function, first, second in (
            (maps.count_maps, antichain(9), EMPTY),
            (maps.all_maps, antichain(11), EMPTY),
            (building.beside, chain(64), chain(64)),
            (building.on_top, chain(64), chain(64)),
            (building.product, chain(64), chain(64)),
            (quotients.find_test, antichain(9), EMPTY),
            (families.map_order, antichain(11), EMPTY),
        ):
            with self.assertRaises(TooLarge):
                function(first, second)

    def test_all_functions_of_orders_take_64_points(self):
        for order in (chain(64), antichain(64)):
            for function, arguments in CALLS:
                if list(arguments) == ["order"] and function not in WITH_BOUNDS:
                    function(order)
