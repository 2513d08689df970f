"""Collapses: weak strikes as chains that are taken out in pairs."""

from strikecore.building import induced
from strikecore.chains import MOST_CHAIN_POINTS, chains
from strikecore.cores import least_strike
from strikecore.errors import TooLarge
from strikecore.masks import bits_of, full_mask, mask_of, masks_above, masks_below
from strikecore.weak import weak_left


def collapses(order, strikes):
    """Pairs of chains that are taken out one behind the other, as the weak row takes out points."""
    if order[0] > MOST_CHAIN_POINTS:
        raise TooLarge()
    weak_left(order, strikes)
    pairing = Pairing(order)
    left = full_mask(order[0])
    pairs = []
    for x, way in strikes:
        pairs.extend(pairing.pairs_with(left, x, way))
        left ^= 1 << x
    return tuple(pairs)


class Pairing:
    """Pairs chains such that each pair is a collapse when those ahead of it are taken out."""

    def __init__(self, order):
        self.whole = order
        self.ups = masks_above(order)
        self.downs = masks_below(order)

    def pairs_with(self, left, x, way):
        """The chains of the set left that have the point x in them, which can be struck weakly."""
        low = left & self.downs[x]
        high = left & self.ups[x]
        # Longer chains go first: no other chain may have all points of the first of a pair.
        if way == "below":
            tops = self.longest_first(high)
            return [(s + (x,) + top, t + (x,) + top) for s, t in self.pairs_of(low) for top in tops]
        bottoms = self.longest_first(low)
        return [(bottom + (x,) + s, bottom + (x,) + t) for s, t in self.pairs_of(high) for bottom in bottoms]

    def pairs_of(self, points):
        """The chains of a contractible set and the empty row, which stands in the last pair."""
        strike = least_strike(self.ups, self.downs, points, 0)
        if strike is None:
            return [((), tuple(bits_of(points)))]
        x, way = strike
        side = "below" if way == "down" else "above"
        return self.pairs_with(points, x, side) + self.pairs_of(points ^ 1 << x)

    def longest_first(self, points):
        """The chains of a set, longer ones first, and the empty row behind them."""
        names = bits_of(points)
        found = chains(induced(self.whole, tuple(names)))
        return [tuple(names[i] for i in chain) for chain in found[::-1]] + [()]


def check_collapses(order, points, value):
    """Whether value, any value, is a tuple of collapses that leaves the chains of these points."""
    present = {chain: mask_of(chain) for chain in chains(order)}
    if not isinstance(value, tuple):
        return False
    for pair in value:
        if not _is_pair_of_rows(pair) or not _is_collapse(present, pair[0], pair[1]):
            return False
        del present[pair[0]]
        del present[pair[1]]
    rest = chains(induced(order, points))
    return list(present) == [tuple(points[i] for i in chain) for chain in rest]


def _is_pair_of_rows(value):
    """Whether a value, any value, is a pair of tuples of integers."""
    if not isinstance(value, tuple) or len(value) != 2:
        return False
    return all(_is_row(item) for item in value)


def _is_row(value):
    return isinstance(value, tuple) and all(isinstance(item, int) for item in value)


def _is_collapse(present, first, second):
    """Whether second is the only chain, besides first, that has all points of first, and one more."""
    if first not in present or len(second) != len(first) + 1:
        return False
    points = present[first]
    return [chain for chain in present if present[chain] & points == points] == [first, second]
