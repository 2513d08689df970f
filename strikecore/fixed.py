"""Fixed points of rising maps from an order to itself."""

from strikecore.building import induced
from strikecore.chains import euler
from strikecore.cores import core_strikes, map_to_left
from strikecore.errors import TooLarge
from strikecore.maps import MapList, compose, falling_pair, has_row_form
from strikecore.masks import full_mask, masks_above, with_selves
from strikecore.strikes import begins_with, points_left
from strikecore.weak import weak_left, weak_left_by, weak_row

MOST_TRIED_POINTS = 8


def fixed_points(order, row):
    """The ascending tuple of the points that row takes to themselves."""
    return tuple(x for x in range(order[0]) if row[x] == x)


def lefschetz(order, row):
    """The Euler number of the order of the fixed points."""
    return euler(induced(order, fixed_points(order, row)))


def fixed_answer(order):
    """("always", strikes), ("free", row) or ("tried",): whether every rising map has a fixed point."""
    strikes = weak_row(order)
    if len(weak_left(order, strikes)) == 1:
        return ("always", strikes)
    row = _free_row(order)
    if row is None:
        return ("tried",)
    return ("free", row)


def _free_row(order):
    """The map over the core that comes of the core's least map without a fixed point, or None."""
    strikes = core_strikes(order)
    points = points_left(order, strikes)
    if len(points) > MOST_TRIED_POINTS:
        raise TooLarge()
    free = _least_free_row(induced(order, points))
    if free is None:
        return None
    return compose(compose(map_to_left(order, strikes), free), points)


def _least_free_row(order):
    """The least rising map from the order to itself without a fixed point, or None."""
    everything = full_mask(order[0])
    domains = [everything ^ 1 << x for x in range(order[0])]
    return MapList(order, order).least_from(domains, 0)


def check_fixed(order, answer):
    """Whether answer, any value, shows that every rising map has a fixed point or that one has none."""
    if begins_with(answer, "always", 2):
        points = weak_left_by(order, answer[1])
        return points is not None and len(points) == 1
    return begins_with(answer, "free", 2) and _is_free(order, answer[1])


def _is_free(order, row):
    """Whether row, any value, is a rising map from the order to itself without a fixed point."""
    if not has_row_form(order, order, row) or fixed_points(order, row):
        return False
    return falling_pair(order, with_selves(masks_above(order)), row) is None
