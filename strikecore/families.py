"""Families: orders and maps that come in whole lots."""

from strikecore.alike import MOST_RENAMED_POINTS, RenamingSearch
from strikecore.errors import TooLarge
from strikecore.maps import is_row_at_most, list_maps
from strikecore.masks import full_mask, masks_above, masks_below, with_selves
from strikecore.orders import MOST_POINTS
from strikecore.strikes import top_of

MOST_CLOSED_POINTS = 10


def map_order(first, second):
    """The order of all rising maps; its points are the places in all_maps."""
    rows = list_maps(first, second, MOST_POINTS)
    higher = with_selves(masks_above(second))
    places = range(len(rows))
    pairs = [(f, g) for f in places for g in places if f != g and is_row_at_most(higher, rows[f], rows[g])]
    return (len(rows), tuple(pairs))


def symmetries(order):
    """The ascending tuple of all renamings of the order to itself."""
    if order[0] > MOST_RENAMED_POINTS:
        raise TooLarge()
    return tuple(RenamingSearch(order, order).all_from(()))


def closures(order):
    """The ascending tuple of all rising maps that lead up, and do nothing more when made twice."""
    return _maps_onto_parts(order, masks_above(order), masks_below(order))


def interiors(order):
    """The ascending tuple of all rising maps that lead down, and do nothing more when made twice."""
    return _maps_onto_parts(order, masks_below(order), masks_above(order))


def _maps_onto_parts(order, ups, downs):
    """The maps that take each point to the least point of a part that it is at most."""
    if order[0] > MOST_CLOSED_POINTS:
        raise TooLarge()
    reach = with_selves(ups)
    found = []
    # The values of such a map tell the map; so each part comes of one map or of none.
    for part in range(full_mask(order[0]) + 1):
        row = tuple(top_of(downs, ups, mask & part) for mask in reach)
        if None not in row:
            found.append(row)
    return tuple(sorted(found))


def sphere(k):
    """The order of k + 1 levels of two points, each point being below those of higher levels."""
    n = 2 * k + 2
    _check_size(n)
    return (n, tuple((x, y) for x in range(n) for y in range(n) if x // 2 < y // 2))


def crown(k):
    """The order of k points below and k points above that stand in a ring."""
    _check_size(2 * k)
    pairs = sorted({(low, k + i) for i in range(k) for low in (i, (i + 1) % k)})
    return (2 * k, tuple(pairs))


def _check_size(n):
    if n > MOST_POINTS:
        raise TooLarge()


def turns(k, m, row):
    """How often a map from crown(k) to crown(m) leads round the second ring, going once round the first."""
    ring = _ring_points(k)
    places = _ring_points(m)
    steps = 0
    for at, x in enumerate(ring):
        # ring[-1] stands ahead of ring[0].
        step = (places.index(row[x]) - places.index(row[ring[at - 1]])) % (2 * m)
        steps += -1 if step == 2 * m - 1 else step
    return steps // (2 * m)


def _ring_points(k):
    """The points of crown(k) as they stand in their ring."""
    return [x for i in range(k) for x in (i, k + i)]
