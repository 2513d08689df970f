"""[62]: the desk, which works with a book by lines."""

import itertools
import random
import unittest

from strikecore.books import Book
from strikecore.building import beside, on_top, opposite, product
from strikecore.chains import euler, homology
from strikecore.cores import core_points, core_strikes
from strikecore.desk import Desk
from strikecore.errors import BadEdit, BadLine, NothingLeft, RingFound, StrikeError, TooLarge, UnknownPoint
from strikecore.fixed import fixed_answer
from strikecore.shapes import same_shape
from strikecore.texts import write_order, write_strikes
from tests.reference import CROWN, EMPTY, POINT, SMALL_ORDERS, VEE, antichain, chain, random_orders, ring
from tests.test_fixed import STUCK
from tests.test_weak import W

ORDERS = SMALL_ORDERS + [CROWN, W, ring(4), chain(6), beside(CROWN, VEE)] + random_orders(20, 8, 261, smallest=4)
LOOKS = ("core", "row", "euler", "homology", "fixed", "text", "same")


def desk_of(order):
    return Desk(write_order(order))


def list_text(numbers):
    return ",".join(str(number) for number in numbers) if numbers else "."


def outcome(call, *arguments):
    """What a call returns, or its error as the class and the attributes."""
    try:
        return ("returned", call(*arguments))
    except StrikeError as error:
        return (type(error), vars(error))


class Case(unittest.TestCase):
    def assert_refused(self, order, line, error, told):
        """The line is refused, and nothing changes, neither for undo and redo."""
        desk = desk_of(order)
        desk.answer("turn")
        desk.answer("turn")
        desk.answer("turn")
        desk.answer("undo")
        self.assertEqual(desk.order, order)
        with self.assertRaises(error) as caught:
            desk.answer(line)
        self.assertIs(type(caught.exception), error)
        self.assertEqual(vars(caught.exception), told)
        self.assertEqual(desk.order, order)
        self.assertEqual(desk.answer("redo"), "done")
        self.assertEqual(desk.order, opposite(order))
        self.assertEqual(outcome(desk.answer, "redo"), (NothingLeft, {}))
        for expected in (order, opposite(order), order):
            desk.answer("undo")
            self.assertEqual(desk.order, expected)
        self.assertEqual(outcome(desk.answer, "undo"), (NothingLeft, {}))


class TestMaking(Case):
    def test_orders(self):
        for order in ORDERS + [chain(64), antichain(64)]:
            self.assertEqual(desk_of(order).order, order)
        self.assertEqual(Desk(text="order 3\n\n0\n0 1").order, chain(3))
        self.assertIsInstance(Desk.order, property)
        with self.assertRaises(AttributeError):
            desk_of(VEE).order = CROWN

    def test_texts_of_another_form(self):
        for text, line in (("", 1), ("order", 1), ("order 65", 1), ("order 2\n", 3), ("order 2\n\n0 ", 3), ("order 0\n", 2)):
            with self.assertRaises(BadLine) as caught:
                Desk(text)
            self.assertEqual(caught.exception.line, line)

    def test_rings(self):
        with self.assertRaises(RingFound) as caught:
            Desk("order 3\n1\n0\n0")
        self.assertEqual(caught.exception.points, (0, 1))


class TestEdits(Case):
    def test_put(self):
        desk = desk_of(CROWN)
        self.assertEqual(desk.answer(line="put 0,1 2,3"), "4")
        self.assertEqual(desk.order, on_top_of_both())
        self.assertEqual(desk.answer("put . ."), "5")
        self.assertEqual(desk.answer("put 0,1,2,4 ."), "6")
        self.assertEqual(desk.answer("put . 5"), "7")
        self.assertEqual(desk.order[0], 8)
        self.assertIn((7, 5), desk.order[1])
        self.assertEqual(desk_of(EMPTY).answer("put . ."), "0")
        self.assertEqual(desk_of(antichain(63)).answer("put . 62"), "63")

    def test_put_refused(self):
        for line, kind, pair in (
            ("put 1,0 .", "under", None),
            ("put 0,0 .", "under", None),
            ("put 4 .", "under", None),
            ("put 999 1,0", "under", None),
            ("put . 3,2", "over", None),
            ("put 0 64", "over", None),
            ("put 2 .", "below", (2, 0)),
            ("put . 1", "above", (1, 2)),
            ("put 0 2,3", None, None),
            ("put 0,1,2 2", "between", (2, 2)),
            ("put 0,1,2,3 2", "between", (2, 2)),
        ):
            if kind is None:
                self.assertEqual(desk_of(CROWN).answer(line), "4")
            else:
                self.assert_refused(CROWN, line, BadEdit, {"kind": kind, "pair": pair})
        for line in ("put . .", "put 1,0 .", "put 99 .", "put . 63"):
            self.assert_refused(chain(64), line, TooLarge, {})

    def test_drop(self):
        desk = desk_of(CROWN)
        self.assertEqual(desk.answer("drop 0"), "done")
        self.assertEqual(desk.order, (3, ((0, 1), (0, 2))))
        self.assertEqual(desk.answer("drop 2"), "done")
        self.assertEqual(desk.order, chain(2))
        for line, point in (("drop 4", 4), ("drop 64", 64), ("drop 999", 999), ("drop 1000", 1000)):
            self.assert_refused(CROWN, line, UnknownPoint, {"point": point})
        self.assert_refused(EMPTY, "drop 0", UnknownPoint, {"point": 0})

    def test_tie(self):
        desk = desk_of(beside(chain(2), chain(2)))
        self.assertEqual(desk.answer("tie 1 2"), "0<2 0<3 1<2 1<3")
        self.assertEqual(desk.order, chain(4))
        self.assertEqual(desk.answer("tie 0 3"), ".")
        self.assertEqual(desk.answer("undo"), "done")
        self.assertEqual(desk.answer("undo"), "done")
        self.assertEqual(desk.answer("tie 3 0"), "2<0 2<1 3<0 3<1")
        self.assertEqual(desk_of(antichain(12)).answer("tie 11 10"), "11<10")
        self.assert_refused(CROWN, "tie 4 0", UnknownPoint, {"point": 4})
        self.assert_refused(CROWN, "tie 0 99", UnknownPoint, {"point": 99})
        self.assert_refused(CROWN, "tie 5 99", UnknownPoint, {"point": 5})
        self.assert_refused(CROWN, "tie 2 0", BadEdit, {"kind": "turned", "pair": (2, 0)})
        self.assert_refused(CROWN, "tie 1 1", BadEdit, {"kind": "turned", "pair": (1, 1)})

    def test_cut(self):
        desk = desk_of(chain(3))
        self.assertEqual(desk.answer("cut 0 1"), "done")
        self.assertEqual(desk.order, (3, ((0, 2), (1, 2))))
        self.assert_refused(chain(3), "cut 0 2", BadEdit, {"kind": "cover", "pair": (0, 2)})
        self.assert_refused(chain(3), "cut 1 0", BadEdit, {"kind": "cover", "pair": (1, 0)})
        self.assert_refused(chain(3), "cut 2 2", BadEdit, {"kind": "cover", "pair": (2, 2)})
        self.assert_refused(chain(3), "cut 3 4", UnknownPoint, {"point": 3})
        self.assert_refused(chain(3), "cut 0 4", UnknownPoint, {"point": 4})

    def test_turn_undo_and_redo(self):
        desk = desk_of(VEE)
        self.assertEqual(outcome(desk.answer, "undo"), (NothingLeft, {}))
        self.assertEqual(outcome(desk.answer, "redo"), (NothingLeft, {}))
        self.assertEqual(desk.answer("turn"), "done")
        self.assertEqual(desk.order, opposite(VEE))
        self.assertEqual(desk.answer("undo"), "done")
        self.assertEqual(desk.order, VEE)
        self.assertEqual(desk.answer("redo"), "done")
        self.assertEqual(desk.order, opposite(VEE))
        self.assertEqual(outcome(desk.answer, "redo"), (NothingLeft, {}))
        desk.answer("undo")
        desk.answer("drop 0")
        self.assertEqual(outcome(desk.answer, "redo"), (NothingLeft, {}))


def on_top_of_both():
    """The crown with a point between."""
    return (5, ((0, 2), (0, 3), (0, 4), (1, 2), (1, 3), (1, 4), (4, 2), (4, 3)))


class TestLooks(Case):
    def test_some(self):
        desk = desk_of(CROWN)
        for line, answer in (
            ("core", "0,1,2,3"),
            ("row", ""),
            ("euler", "0"),
            ("homology", "1,1"),
            ("fixed", "free 1,0,3,2"),
            ("text", "order 4\n\n\n0 1\n0 1"),
            ("same", "yes"),
        ):
            self.assertEqual(desk.answer(line), answer)
        desk = desk_of(VEE)
        for line, answer in (
            ("core", "2"),
            ("row", "1 down, 0 up"),
            ("euler", "1"),
            ("homology", "1"),
            ("fixed", "always"),
            ("text", "order 3\n\n0\n0"),
            ("same", "yes"),
        ):
            self.assertEqual(desk.answer(line), answer)
        desk = desk_of(EMPTY)
        for line, answer in (
            ("core", "."),
            ("row", ""),
            ("euler", "0"),
            ("homology", "."),
            ("fixed", "free ."),
            ("text", "order 0"),
            ("same", "yes"),
        ):
            self.assertEqual(desk.answer(line), answer)

    def test_as_the_functions_say(self):
        for order in ORDERS:
            desk = desk_of(order)
            self.assertEqual(desk.answer("core"), list_text(core_points(order)))
            self.assertEqual(desk.answer("row"), write_strikes(core_strikes(order)))
            self.assertEqual(desk.answer("euler"), str(euler(order)))
            self.assertEqual(desk.answer("homology"), list_text(homology(order)))
            self.assertEqual(desk.answer("text"), write_order(order))
            self.assertEqual(desk.order, order)

    def test_euler_numbers_below_0_and_large_ones(self):
        self.assertEqual(desk_of(on_top(antichain(3), antichain(4))).answer("euler"), "-5")
        order = POINT
        for _ in range(21):
            order = on_top(order, antichain(3))
        self.assertEqual(euler(order), 1)
        order = antichain(3)
        for _ in range(20):
            order = on_top(order, antichain(3))
        self.assertEqual(desk_of(order).answer("euler"), str(1 + 2 ** 21))
        self.assertEqual(desk_of(on_top(order, POINT)).answer("euler"), "1")

    def test_homology(self):
        self.assertEqual(desk_of(antichain(10)).answer("homology"), "10")
        self.assertEqual(desk_of(beside(on_top(CROWN, antichain(2)), POINT)).answer("homology"), "2,0,1")
        for order in (antichain(11), ring(6), STUCK):
            self.assert_refused(order, "homology", TooLarge, {})

    def test_fixed(self):
        for order in ORDERS + [STUCK]:
            answer = outcome(fixed_answer, order)
            if answer[0] == "returned":
                word = answer[1][0]
                expected = "free " + list_text(answer[1][1]) if word == "free" else word
                self.assertEqual(desk_of(order).answer("fixed"), expected)
        self.assertEqual(desk_of(STUCK).answer("fixed"), "tried")
        self.assertEqual(desk_of(antichain(2)).answer("fixed"), "free 1,0")
        self.assertEqual(desk_of(W).answer("fixed"), "always")
        self.assert_refused(antichain(9), "fixed", TooLarge, {})

    def test_same_looks_back_at_the_order_of_the_beginning(self):
        desk = desk_of(CROWN)
        self.assertEqual(desk.answer("same"), "yes")
        desk.answer("put 0,1,2,3 .")
        self.assertEqual(desk.answer("same"), "no")
        desk.answer("turn")
        self.assertEqual(desk.answer("same"), "no")
        desk.answer("drop 4")
        # The crown turned about is of the shape of the crown.
        self.assertEqual(desk.order, opposite(CROWN))
        self.assertEqual(desk.answer("same"), "yes")
        desk.answer("put 2,3 .")
        self.assertEqual(desk.answer("same"), "no")
        desk.answer("undo")
        desk.answer("put 2 .")
        self.assertEqual(desk.answer("same"), "yes")
        for order in (antichain(9), ring(5), W):
            self.assert_refused(order, "same", TooLarge, {})
        desk = desk_of(antichain(9))
        desk.answer("drop 0")
        self.assertEqual(desk.answer("same"), "no")

    def test_looks_change_nothing(self):
        for order in ORDERS[::4] + [antichain(9), ring(6)]:
            desk = desk_of(order)
            desk.answer("turn")
            desk.answer("turn")
            desk.answer("undo")
            for word in LOOKS:
                first = outcome(desk.answer, word)
                self.assertEqual(outcome(desk.answer, word), first)
                self.assertEqual(desk.order, opposite(order))
            self.assertEqual(desk.answer("redo"), "done")
            self.assertEqual(desk.order, order)
            self.assertEqual(outcome(desk.answer, "redo"), (NothingLeft, {}))
            desk.answer("undo")
            desk.answer("undo")
            for word in LOOKS:
                outcome(desk.answer, word)
            self.assertEqual(outcome(desk.answer, "undo"), (NothingLeft, {}))
            desk.answer("redo")
            desk.answer("redo")
            self.assertEqual(desk.order, order)


GOOD_LINES = ("put . .", "put 0,1 2,3", "put 0 .", "put . 2,3", "drop 0", "tie 0 1", "cut 0 2", "turn", "undo") + LOOKS


class TestOtherLines(Case):
    def assert_bad(self, line, order=CROWN):
        self.assert_refused(order, line, BadLine, {"line": 1})

    def test_signs_too_many(self):
        for line in GOOD_LINES + ("redo",):
            for wrong in (" " + line, line + " ", line + "\n", "\n" + line, line + "\r", line + "\t", line + ";", line + " .",
                          line + " 0 0", line.upper(), line.title(), line + "x", "x" + line, line + "\n" + line):
                self.assert_bad(wrong)
            if " " in line:
                self.assert_bad(line.replace(" ", "  "))
                self.assert_bad(line.replace(" ", "\t"))
                self.assert_bad(line.replace(" ", "\n"))
                self.assert_bad(line.replace(" ", ""))

    def test_other_words(self):
        for line in ("", " ", "\n", ".", "0", "help", "quit", "order", "order 4", "puts . .", "pu . .", "put_point . .", "add 0",
                     "cores", "look", "done", "yes", "no", "?", "Core", "turn turn", "undo undo", "redo redo", "core row"):
            self.assert_bad(line)

    def test_too_few_and_too_many_words(self):
        for line in ("put", "put .", "put 0", "put . . .", "put 0 1 2", "drop", "drop 0 1", "tie", "tie 0", "tie 0 1 2", "cut",
                     "cut 0", "cut 0 2 3", "turn 0", "undo 1", "redo 1", "core 0", "row .", "euler 1", "homology 1", "fixed 1",
                     "text 1", "same 1", "same CROWN"):
            self.assert_bad(line)

    def test_numbers_of_another_form(self):
        for number in ("", ".", "-1", "-0", "+1", "01", "00", "000", "1.", "1.0", "1_0", "0x1", "x", "one", "1,", "1,2", ",", "1\n",
                       "\n", "1\t", "(1)", "1;", "None"):
            self.assert_bad("drop " + number)
            for word in ("tie", "cut"):
                self.assert_bad(f"{word} {number} 2")
                self.assert_bad(f"{word} 0 {number}")
                # The form comes ahead of what the method says.
                self.assert_bad(f"{word} 99 {number}")
                self.assert_bad(f"{word} {number} 99")

    def test_lists_of_another_form(self):
        for numbers in ("", ",", "..", ".,", ",.", "0,", ",0", "0,,1", "0,.", ".,0", "0;1", "0.1", "0, 1", "0 ,1", "-1", "0,-1", "+0",
                        "00", "01", "0,01", "x", "0,x", "(0,1)", "0,1\n", "\n", "0\n1", "0-1", "None"):
            self.assert_bad(f"put {numbers} .")
            self.assert_bad(f"put . {numbers}")
            self.assert_bad(f"put {numbers} {numbers}")
            self.assert_bad(f"put 99 {numbers}")
            self.assert_bad(f"put {numbers} 99")
            self.assert_bad(f"put {numbers} .", chain(64))

    def test_the_form_does_not_hang_on_the_order(self):
        for order in (EMPTY, chain(64), W):
            for line in ("", "put 0", "drop x", "tie 0", "same same", "core "):
                self.assert_bad(line, order)


class TestManyLines(Case):
    def random_line(self, order, source):
        n = order[0]
        numbers = [str(source.randrange(n + 2)) for _ in range(2)]
        parts = [list_text(sorted(source.sample(range(n + 1), min(n, source.randrange(3))))) for _ in range(2)]
        return source.choice(
            [f"put {parts[0]} .", f"put . {parts[1]}", f"put {parts[0]} {parts[1]}", "put . .", "drop " + numbers[0]]
            + ["tie " + " ".join(numbers)] * 3
            + ["cut " + " ".join(numbers)] * 2
            + ["turn", "undo", "undo", "redo", "wrong", "put", "drop -1"]
            + list(LOOKS)
        )

    def expected(self, book, began, line):
        """What the book and the functions say to a line."""
        word, *rest = line.split(" ")
        numbers = [int(item) if item.isdigit() else item for item in rest]
        if line in ("wrong", "put", "drop -1"):
            return (BadLine, {"line": 1})
        if word == "put":
            lists = [() if item == "." else tuple(map(int, item.split(","))) for item in rest]
            return self.told(outcome(book.put_point, *lists))
        if word == "tie":
            found = outcome(book.put_pair, *numbers)
            if found[0] == "returned":
                return ("returned", " ".join(f"{x}<{y}" for x, y in found[1]) if found[1] else ".")
            return found
        if word in ("drop", "cut", "turn", "undo", "redo"):
            names = {"drop": "drop_point", "cut": "drop_pair"}
            return self.told(outcome(getattr(book, names.get(word, word)), *numbers))
        looks = {
            "core": lambda: list_text(core_points(book.order)),
            "row": lambda: write_strikes(core_strikes(book.order)),
            "euler": lambda: str(euler(book.order)),
            "homology": lambda: list_text(homology(book.order)),
            "fixed": lambda: " ".join(["free", list_text(fixed_answer(book.order)[1])])
            if fixed_answer(book.order)[0] == "free"
            else fixed_answer(book.order)[0],
            "text": lambda: write_order(book.order),
            "same": lambda: same_shape(book.order, began)[0],
        }
        return outcome(looks[word])

    def told(self, found):
        if found[0] == "returned":
            return ("returned", "done" if found[1] is None else str(found[1]))
        return found

    def test_random_lines_against_a_book(self):
        source = random.Random(262)
        seen = set()
        for _ in range(60):
            began = source.choice(ORDERS[4:])
            desk, book = desk_of(began), Book(began)
            for _ in range(50):
                line = self.random_line(book.order, source)
                expected = self.expected(book, began, line)
                self.assertEqual(outcome(desk.answer, line), expected, line)
                self.assertEqual(desk.order, book.order)
                seen.add((line.split(" ")[0], expected[0] == "returned"))
        for word in ("put", "drop", "tie", "cut", "undo", "redo"):
            self.assertTrue({(word, True), (word, False)} <= seen)
        for word in LOOKS + ("turn",):
            self.assertIn((word, True), seen)

    def test_desks_do_not_touch_each_other(self):
        text = write_order(CROWN)
        first, second = Desk(text), Desk(text)
        first.answer("drop 0")
        self.assertEqual(second.order, CROWN)
        self.assertEqual(outcome(second.answer, "undo"), (NothingLeft, {}))
        self.assertEqual([first.answer("same"), second.answer("same")], ["no", "yes"])

    def test_an_order_of_64_points(self):
        desk = desk_of(product(CROWN, chain(16)))
        self.assertEqual(desk.answer("euler"), "0")
        self.assertEqual(desk.answer("homology"), "1,1")
        self.assertEqual(len(desk.answer("core").split(",")), 4)
        self.assertEqual(len(desk.answer("row").split(", ")), 60)
        self.assertEqual(desk.answer("fixed").split(" ")[0], "free")
        self.assertEqual(desk.answer("same"), "yes")
        self.assertEqual(desk.answer("drop 63"), "done")
        for x, y in itertools.islice(itertools.combinations(range(0, 63, 7), 2), 10):
            self.assertEqual(outcome(desk.answer, f"tie {y} {x}")[0] in ("returned", BadEdit), True)
