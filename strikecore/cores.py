"""Cores: what is left when no strike can be made any more, and the maps that lead there."""

from strikecore.building import induced
from strikecore.maps import identity_map
from strikecore.masks import bits_of, full_mask, masks_above, masks_below
from strikecore.strikes import WAYS, find_partner, partners_of, points_left


def core_strikes(order):
    """The finished row in which always the least point is struck, down if that can be done."""
    ups = masks_above(order)
    downs = masks_below(order)
    left = full_mask(order[0])
    row = []
    strike = _least_strike(ups, downs, left)
    while strike is not None:
        row.append(strike)
        left ^= 1 << strike[0]
        strike = _least_strike(ups, downs, left)
    return tuple(row)


def _least_strike(ups, downs, left):
    """The least strike that can be made while the set left is left, or None."""
    for x in bits_of(left):
        for way in WAYS:
            if find_partner(ups, downs, left, (x, way)) is not None:
                return (x, way)
    return None


def core_points(order):
    """The ascending tuple of the points that core_strikes leaves."""
    return points_left(order, core_strikes(order))


def core(order):
    """The order of the points that core_strikes leaves."""
    return induced(order, core_points(order))


def strike_map(order, strikes):
    """The map that takes each point to the point left that its partners lead to."""
    return strike_fence(order, strikes)[-1]


def strike_fence(order, strikes):
    """The maps of the beginnings of a striking row, from the identity on."""
    partners = partners_of(order, strikes)
    row = identity_map(order)
    fence = [row]
    for at, found in enumerate(partners):
        row = _led_on(row, strikes[at][0], found)
        fence.append(row)
    return tuple(fence)


def _led_on(row, struck, found):
    """The map row, its points at the struck point going on to the partner found."""
    return tuple(found if value == struck else value for value in row)


def is_contractible(order):
    """Whether the core has exactly one point."""
    return len(core_points(order)) == 1
