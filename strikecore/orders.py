"""Finite orders: checking and making them, and asking about their points."""

from strikecore.errors import BadOrder, RingFound
from strikecore.masks import bits_of, full_mask, groups_of, masks_above, masks_below, order_from, union_of

MOST_POINTS = 64


def check_order(value):
    """Returns None if the value is an order, else raises BadOrder."""
    if not _has_form(value):
        raise BadOrder(None)
    _check_places(value)
    _check_turned(value)
    _check_missing(value)


def _has_form(value):
    """Whether the value is a number of points and a tuple of pairs of integers."""
    if not isinstance(value, tuple) or len(value) != 2:
        return False
    n, pairs = value
    if not isinstance(n, int) or not 0 <= n <= MOST_POINTS or not isinstance(pairs, tuple):
        return False
    return all(is_pair(pair) for pair in pairs)


def is_pair(value):
    """Whether a value, any value, is a pair of integers."""
    if not isinstance(value, tuple) or len(value) != 2:
        return False
    return isinstance(value[0], int) and isinstance(value[1], int)


def _check_places(value):
    """Each pair is in range, of two numbers, and greater than the one before it."""
    n, pairs = value
    before = (-1, -1)
    for pair in pairs:
        if not _is_in_range(n, pair) or pair[0] == pair[1] or pair <= before:
            raise BadOrder(pair)
        before = pair


def _is_in_range(n, pair):
    x, y = pair
    return 0 <= x < n and 0 <= y < n


def _check_turned(value):
    """No two points are below each other."""
    known = set(value[1])
    for x, y in value[1]:
        if (y, x) in known:
            raise BadOrder((x, y))


def _check_missing(value):
    """What is above a point above x is above x."""
    ups = masks_above(value)
    for x, mask in enumerate(ups):
        missing = union_of(ups, mask) & ~mask
        if missing:
            raise BadOrder((x, bits_of(missing)[0]))


def order_of(n, links):
    """The order with the fewest pairs in which x is below y for each link (x, y)."""
    for link in links:
        if not _is_in_range(n, link):
            raise BadOrder(link)
    ups = _closed(masks_above((n, links)))
    ring = [x for x, mask in enumerate(ups) if mask >> x & 1]
    if ring:
        raise RingFound(tuple(ring))
    return order_from(ups)


def _closed(masks):
    """For each point the set of all points that ways along links lead to."""
    n = len(masks)
    reached = list(masks)
    for between in range(n):
        for x in range(n):
            if reached[x] >> between & 1:
                reached[x] |= reached[between]
    return reached


def covers(order):
    """The ascending tuple of the pairs (x, y) such that y covers x."""
    ups = masks_above(order)
    # What is above a point above x has that point between itself and x.
    return order_from([mask & ~union_of(ups, mask) for mask in ups])[1]


def neighbour_masks(order):
    """For each point the set of the points that it covers or that cover it."""
    links = (order[0], covers(order))
    ups = masks_above(links)
    downs = masks_below(links)
    return [ups[x] | downs[x] for x in range(order[0])]


def below(order, x):
    """The points below x."""
    return tuple(low for low, high in order[1] if high == x)


def above(order, x):
    """The points above x."""
    return tuple(high for low, high in order[1] if low == x)


def is_below(order, x, y):
    """Whether x is below y."""
    return (x, y) in order[1]


def minimal(order):
    """The points with nothing below them."""
    return _points_without(masks_below(order))


def maximal(order):
    """The points with nothing above them."""
    return _points_without(masks_above(order))


def _points_without(masks):
    return tuple(x for x, mask in enumerate(masks) if not mask)


def least(order):
    """The point that is below all others, or None."""
    return _point_with_all(masks_above(order))


def greatest(order):
    """The point that is above all others, or None."""
    return _point_with_all(masks_below(order))


def _point_with_all(masks):
    """The point whose set has all other points, or None."""
    everything = full_mask(len(masks))
    for x, mask in enumerate(masks):
        if mask | 1 << x == everything:
            return x
    return None


def pieces(order):
    """The tuple of the ascending tuples of points that hang together."""
    groups = groups_of(neighbour_masks(order), full_mask(order[0]))
    return tuple(tuple(bits_of(group)) for group in groups)


def is_connected(order):
    """Whether the order has exactly one piece."""
    return len(pieces(order)) == 1
