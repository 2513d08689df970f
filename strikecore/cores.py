"""Cores: what is left when no strike can be made any more, and the maps that lead there."""

from strikecore.building import induced
from strikecore.maps import identity_map
from strikecore.masks import bits_of, full_mask, masks_above, masks_below
from strikecore.strikes import WAYS, find_partner, partners_of, points_left, top_of


def core_strikes(order):
    """The finished row in which always the least point is struck, down if that can be done."""
    return strikes_outside(order, 0)


def strikes_outside(order, kept):
    """The row in which always the least point that is not in the set kept is struck.

    It is struck down if that can be done; the row ends when no such point can be struck.
    """
    ups = masks_above(order)
    downs = masks_below(order)
    left = full_mask(order[0])
    row = []
    strike = least_strike(ups, downs, left, kept)
    while strike is not None:
        row.append(strike)
        left ^= 1 << strike[0]
        strike = least_strike(ups, downs, left, kept)
    return tuple(row)


def least_strike(ups, downs, left, kept):
    """The least strike of a point of left that is not in kept, or None."""
    for x in bits_of(left & ~kept):
        for way in WAYS:
            if find_partner(ups, downs, left, (x, way)) is not None:
                return (x, way)
    return None


def core_points(order):
    """The ascending tuple of the points that core_strikes leaves."""
    return points_left(order, core_strikes(order))


def core(order):
    """The order of the points that core_strikes leaves."""
    return induced(order, core_points(order))


def strike_map(order, strikes):
    """The map that takes each point to the point left that its partners lead to."""
    return strike_fence(order, strikes)[-1]


def map_to_left(order, strikes):
    """The map of strike_map, as one from the order to the order of the points left."""
    left = points_left(order, strikes)
    return tuple(left.index(value) for value in strike_map(order, strikes))


def strike_fence(order, strikes):
    """The maps of the beginnings of a striking row, from the identity on."""
    partners = partners_of(order, strikes)
    row = identity_map(order)
    fence = [row]
    for at, found in enumerate(partners):
        row = _led_on(row, strikes[at][0], found)
        fence.append(row)
    return tuple(fence)


def _led_on(row, struck, found):
    """The map row, its points at the struck point going on to the partner found."""
    return tuple(found if value == struck else value for value in row)


def is_contractible(order):
    """Whether the core has exactly one point."""
    return contracts(masks_above(order), masks_below(order), full_mask(order[0]))


def contracts(ups, downs, points):
    """Whether a set of points, as an order of its own, is contractible."""
    # All finished rows leave equally many points; so it does not matter which are struck first.
    while not _is_cone(ups, downs, points):
        left = _struck_in_turn(ups, downs, points)
        if left == points:
            return False
        points = left
    return True


def _is_cone(ups, downs, points):
    """Whether a set of points has a greatest or a least one in the order."""
    return top_of(ups, downs, points) is not None or top_of(downs, ups, points) is not None


def _struck_in_turn(ups, downs, points):
    """What is left of a set of points, each of them struck if that can be done in its turn."""
    left = points
    for x in bits_of(points):
        if least_strike(ups, downs, left, left ^ 1 << x) is not None:
            left ^= 1 << x
    return left
