"""Quotients of orders, and the counts of maps that tell orders from each other."""

from strikecore.alike import renaming_of
from strikecore.errors import RingFound, TooLarge
from strikecore.maps import count_maps
from strikecore.orders import order_of

MOST_TESTED_POINTS = 8


def quotient(order, labels):
    """The order in which points with equal labels become one, or None if there is none."""
    numbers = {}
    for label in labels:
        if label not in numbers:
            numbers[label] = len(numbers)
    pairs = [(numbers[labels[x]], numbers[labels[y]]) for x, y in order[1]]
    try:
        return order_of(len(numbers), tuple(pair for pair in pairs if pair[0] != pair[1]))
    except RingFound:
        return None


def test_counts(test, first, second):
    """The numbers of rising maps from test to first and from test to second."""
    return (count_maps(test, first), count_maps(test, second))


def find_test(first, second):
    """The least quotient of first or second with unlike numbers of maps to both, or None."""
    if first[0] > MOST_TESTED_POINTS or second[0] > MOST_TESTED_POINTS:
        raise TooLarge()
    if first[0] != second[0]:
        return (1, ())
    if renaming_of(first, second) is not None:
        return None
    rows = _label_rows(first[0])
    for k in range(1, first[0] + 1):
        labels = [row for row in rows if max(row) == k - 1]
        for test in _quotients(first, second, labels):
            counts = test_counts(test, first, second)
            if counts[0] != counts[1]:
                return test
    return None


def _label_rows(n):
    """All rows of labels for n points in which new labels come as 0, 1, 2, .."""
    rows = [()]
    for _ in range(n):
        rows = [row + (label,) for row in rows for label in range(max(row, default=-1) + 2)]
    return rows


def _quotients(first, second, rows):
    """The ascending list of the quotients of both orders by these rows of labels."""
    found = [quotient(order, row) for order in (first, second) for row in rows]
    return sorted({order for order in found if order is not None})
