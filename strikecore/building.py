"""Orders that are made of other orders."""

from strikecore.errors import TooLarge
from strikecore.masks import masks_above, masks_below, order_from, with_selves
from strikecore.orders import MOST_POINTS


def _check_size(n):
    if n > MOST_POINTS:
        raise TooLarge()


def induced(order, points):
    """The order of some points, numbered anew in their order."""
    _check_size(len(points))
    ups = masks_above(order)
    places = range(len(points))
    pairs = [(i, j) for i in places for j in places if ups[points[i]] >> points[j] & 1]
    return (len(points), tuple(pairs))


def opposite(order):
    """The order turned about."""
    _check_size(order[0])
    return order_from(masks_below(order))


def beside(first, second):
    """Both orders side by side, the points of second numbered behind those of first."""
    n = first[0] + second[0]
    _check_size(n)
    return (n, first[1] + _moved(second, first[0]))


def _moved(order, by):
    """The pairs of an order with a number added to each point."""
    return tuple((x + by, y + by) for x, y in order[1])


def on_top(first, second):
    """Both orders with each point of first below each point of second."""
    low = first[0]
    n = low + second[0]
    _check_size(n)
    between = [(x, y) for x in range(low) for y in range(low, n)]
    return (n, tuple(sorted([*first[1], *between])) + _moved(second, low))


def product(first, second):
    """The pairs (x, q) of a point of each order, compared in both places."""
    n = first[0]
    m = second[0]
    _check_size(n * m)
    left = with_selves(masks_above(first))
    right = with_selves(masks_above(second))
    rows = [(x, q) for x in range(n) for q in range(m)]
    pairs = [
        (x * m + q, y * m + r)
        for x, q in rows
        for y, r in rows
        if (x, q) != (y, r) and left[x] >> y & 1 and right[q] >> r & 1
    ]
    return (n * m, tuple(pairs))
