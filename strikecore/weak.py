"""Weak strikes: taking out points with something contractible below or above them."""

from strikecore.cores import contracts
from strikecore.errors import NotStrikable
from strikecore.masks import bits_of, full_mask, mask_of, masks_above, masks_below
from strikecore.strikes import is_strike_tuple

WEAK_WAYS = ("above", "below")


class WeakRules:
    """Tells which weak strikes can be made.

    Most strikes change only a few of the sets that matter; so what was found out of a set is kept.
    """

    def __init__(self, order):
        self.ups = masks_above(order)
        self.downs = masks_below(order)
        self.found = {}

    def allows(self, left, strike):
        """Whether a weak strike of any integer can be made while the set left is left."""
        x, way = strike
        if not 0 <= x < len(self.ups) or not left >> x & 1:
            return False
        if way == "below":
            return self.is_contractible(self.downs[x] & left)
        return self.is_contractible(self.ups[x] & left)

    def is_contractible(self, points):
        """Whether a set of points is contractible."""
        if points not in self.found:
            self.found[points] = contracts(self.ups, self.downs, points)
        return self.found[points]

    def least_strike(self, left):
        """The weak strike of the least point, below if that can be done, or None."""
        for x in bits_of(left):
            for way in ("below", "above"):
                if self.allows(left, (x, way)):
                    return (x, way)
        return None


def weak_strikes_of(order, points):
    """The ascending tuple of all weak strikes that can be made while these points are left."""
    rules = WeakRules(order)
    left = mask_of(points)
    strikes = [(x, way) for x in points for way in WEAK_WAYS]
    return tuple(strike for strike in strikes if rules.allows(left, strike))


def weak_left(order, strikes):
    """The ascending tuple of the points that a weak row leaves."""
    rules = WeakRules(order)
    left = full_mask(order[0])
    for at, strike in enumerate(strikes):
        if not rules.allows(left, strike):
            raise NotStrikable(at)
        left ^= 1 << strike[0]
    return tuple(bits_of(left))


def weak_left_by(order, value):
    """The points that a weak row leaves, or None if value, any value, is no weak row."""
    if not is_strike_tuple(value, WEAK_WAYS):
        return None
    try:
        return weak_left(order, value)
    except NotStrikable:
        return None


def weak_row(order):
    """The weak row in which always the least point is struck, below if that can be done."""
    rules = WeakRules(order)
    left = full_mask(order[0])
    row = []
    strike = rules.least_strike(left)
    while strike is not None:
        row.append(strike)
        left ^= 1 << strike[0]
        strike = rules.least_strike(left)
    return tuple(row)
