"""The desk: a book that is worked with by lines of text."""

from strikecore.books import Book
from strikecore.chains import euler, homology
from strikecore.cores import core_points, core_strikes
from strikecore.errors import BadLine
from strikecore.fixed import fixed_answer
from strikecore.shapes import same_shape
from strikecore.texts import number_in, read_order, write_order, write_strikes


class Desk:
    """Keeps a book of an order, and does what lines say."""

    def __init__(self, text):
        self.began = read_order(text)
        self.book = Book(self.began)

    @property
    def order(self):
        """The present order."""
        return self.book.order

    def answer(self, line):
        """Does what a line says and returns a text; BadLine if the line has another form."""
        match line.split(" "):
            case ["put", under, over]:
                return str(self.book.put_point(_list_in(under), _list_in(over)))
            case ["drop", x]:
                self.book.drop_point(_number_in(x))
            case ["tie", x, y]:
                return _pairs_text(self.book.put_pair(_number_in(x), _number_in(y)))
            case ["cut", x, y]:
                self.book.drop_pair(_number_in(x), _number_in(y))
            case ["turn"]:
                self.book.turn()
            case ["undo"]:
                self.book.undo()
            case ["redo"]:
                self.book.redo()
            case [word]:
                return self.look(word)
            case _:
                raise BadLine(1)
        return "done"

    def look(self, word):
        """What a line of one word that changes nothing asks for."""
        order = self.order
        match word:
            case "core":
                return _list_text(core_points(order))
            case "row":
                return write_strikes(core_strikes(order))
            case "euler":
                return str(euler(order))
            case "homology":
                return _list_text(homology(order))
            case "fixed":
                return _fixed_text(fixed_answer(order))
            case "text":
                return write_order(order)
            case "same":
                return same_shape(order, self.began)[0]
            case _:
                raise BadLine(1)


def _number_in(word):
    number = number_in(word)
    if number is None:
        raise BadLine(1)
    return number


def _list_in(word):
    if word == ".":
        return ()
    return tuple(_number_in(part) for part in word.split(","))


def _list_text(numbers):
    return ",".join(str(number) for number in numbers) or "."


def _pairs_text(pairs):
    return " ".join(f"{x}<{y}" for x, y in pairs) or "."


def _fixed_text(answer):
    """The word of an answer, for "free" with the row behind it."""
    if answer[0] == "free":
        return f"free {_list_text(answer[1])}"
    return answer[0]
