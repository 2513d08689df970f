"""Orders, rows and strikes written as texts, and read again."""

from strikecore.errors import BadLine
from strikecore.orders import MOST_POINTS, covers, order_of

ALL_WAYS = ("down", "up", "above", "below")

# Longer numbers are no points anyway, and Python refuses to read very long ones.
MOST_DIGITS = 60


def write_order(order):
    """A line with the number of points, and for each point a line with those that it covers."""
    lows = [[] for _ in range(order[0])]
    for x, y in covers(order):
        lows[y].append(x)
    return "\n".join([f"order {order[0]}"] + [write_row(points) for points in lows])


def read_order(text):
    """The order that the text tells; BadLine with the first line of another form, then RingFound."""
    lines = text.split("\n")
    n = _points_told(lines[0])
    if n is None:
        raise BadLine(1)
    links = []
    for at, line in enumerate(lines[1 : n + 1]):
        points = _numbers_in(line, n - 1)
        if points is None or not _is_ascending(points):
            raise BadLine(at + 2)
        links.extend([(x, at) for x in points])
    if len(lines) != n + 1:
        raise BadLine(min(len(lines) + 1, n + 2))
    return order_of(n, tuple(links))


def _points_told(line):
    """The number of points that the first line of a text tells, or None if it has another form."""
    words = line.split(" ")
    if len(words) != 2 or words[0] != "order":
        return None
    n = number_in(words[1])
    return None if n is None or n > MOST_POINTS else n


def number_in(word):
    """The number that a word tells, or None if it has another form."""
    if not word.isdigit() or len(word) > MOST_DIGITS:
        return None
    if word[0] == "0" and word != "0":
        return None
    return int(word)


def _numbers_in(line, most):
    """The numbers that a line tells, or None if it has another form or a number above most."""
    if line == "":
        return ()
    numbers = [number_in(word) for word in line.split(" ")]
    if any(number is None or number > most for number in numbers):
        return None
    return tuple(numbers)


def _is_ascending(numbers):
    return all(numbers[k] < numbers[k + 1] for k in range(len(numbers) - 1))


def write_row(row):
    """The numbers of a row with blanks between."""
    return " ".join(str(value) for value in row)


def read_row(text):
    """The row that the text tells; BadLine if it has another form."""
    row = _numbers_in(text, MOST_POINTS - 1)
    if row is None:
        raise BadLine(1)
    return row


def write_strikes(strikes):
    """The strikes or weak strikes with commas between."""
    return ", ".join(f"{x} {way}" for x, way in strikes)


def read_strikes(text):
    """The strikes or weak strikes that the text tells; BadLine if it has another form."""
    if text == "":
        return ()
    strikes = [_strike_in(part) for part in text.split(", ")]
    if None in strikes:
        raise BadLine(1)
    return tuple(strikes)


def _strike_in(text):
    """The strike that a text tells, or None if it has another form."""
    words = text.split(" ")
    if len(words) != 2 or words[1] not in ALL_WAYS:
        return None
    x = number_in(words[0])
    return None if x is None or x >= MOST_POINTS else (x, words[1])
