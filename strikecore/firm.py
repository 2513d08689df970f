"""Firm parts: those that are left when all other points are struck."""

from strikecore.cores import least_strike, strikes_outside
from strikecore.masks import mask_of, masks_above, masks_below
from strikecore.strikes import begins_with, left_by, points_left


def firm(order, part):
    """("firm", strikes) or ("not", strikes), with the least strikes of points outside the part."""
    strikes = strikes_outside(order, mask_of(part))
    if points_left(order, strikes) == part:
        return ("firm", strikes)
    return ("not", strikes)


def check_firm(order, part, answer):
    """Whether answer, any value, shows that the part is firm or that it is not."""
    if begins_with(answer, "firm", 2):
        return left_by(order, answer[1]) == part
    return begins_with(answer, "not", 2) and _is_stuck(order, part, answer[1])


def _is_stuck(order, part, strikes):
    """Whether strikes, any value, is a striking row outside the part that cannot be continued there."""
    points = left_by(order, strikes)
    if points is None or points == part:
        return False
    left = mask_of(points)
    kept = mask_of(part)
    if kept & ~left:
        return False
    return least_strike(masks_above(order), masks_below(order), left, kept) is None
