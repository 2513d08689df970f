"""Strikes: taking points out of an order one by one, each beside a partner."""

from strikecore.errors import NotStrikable
from strikecore.masks import bits_of, full_mask, lowest_bit, mask_of, masks_above, masks_below

WAYS = ("down", "up")


def top_of(ups, downs, points):
    """The greatest one of a set of points in the order, or None if there is none."""
    if not points:
        return None
    top = lowest_bit(points)
    # A greatest point is the only one with nothing above it; so each way up ends there.
    while ups[top] & points:
        top = lowest_bit(ups[top] & points)
    if points & ~downs[top] == 1 << top:
        return top
    return None


def find_partner(ups, downs, left, strike):
    """The partner of a strike while the set left is left, or None if it cannot be made."""
    x, way = strike
    if not 0 <= x < len(ups) or not left >> x & 1:
        return None
    if way == "down":
        return top_of(ups, downs, downs[x] & left)
    # The least point is the greatest one of the order turned about.
    return top_of(downs, ups, ups[x] & left)


def strikes_of(order, points):
    """The ascending tuple of all strikes that can be made while these points are left."""
    ups = masks_above(order)
    downs = masks_below(order)
    left = mask_of(points)
    strikes = [(x, way) for x in points for way in WAYS]
    return tuple(strike for strike in strikes if find_partner(ups, downs, left, strike) is not None)


def partner(order, points, strike):
    """The partner of a strike while these points are left; NotStrikable if it cannot be made."""
    found = find_partner(masks_above(order), masks_below(order), mask_of(points), strike)
    if found is None:
        raise NotStrikable(0)
    return found


def partners_of(order, strikes):
    """The tuple of the partners of a striking row; NotStrikable if it is none."""
    ups = masks_above(order)
    downs = masks_below(order)
    left = full_mask(order[0])
    partners = []
    for at, strike in enumerate(strikes):
        found = find_partner(ups, downs, left, strike)
        if found is None:
            raise NotStrikable(at)
        partners.append(found)
        left ^= 1 << strike[0]
    return tuple(partners)


def points_left(order, strikes):
    """The ascending tuple of the points that a striking row leaves."""
    partners_of(order, strikes)
    struck = mask_of([x for x, _ in strikes])
    return tuple(bits_of(full_mask(order[0]) & ~struck))


def left_by(order, value):
    """The points that a striking row leaves, or None if value, any value, is no striking row."""
    if not is_strike_tuple(value, WAYS):
        return None
    try:
        return points_left(order, value)
    except NotStrikable:
        return None


def is_strike_tuple(value, ways):
    """Whether value, any value, is a tuple of pairs of an integer and one of the ways."""
    return isinstance(value, tuple) and all(_is_strike(item, ways) for item in value)


def _is_strike(value, ways):
    if not isinstance(value, tuple) or len(value) != 2:
        return False
    return isinstance(value[0], int) and value[1] in ways


def begins_with(value, word, length):
    """Whether a value, any value, is a tuple of this length whose first item is the word."""
    return isinstance(value, tuple) and len(value) == length and value[0] == word


def is_finished(order, strikes):
    """Whether no strike can be made behind a striking row."""
    return not strikes_of(order, points_left(order, strikes))


def is_core(order):
    """Whether no strike can be made at all."""
    return is_finished(order, ())
