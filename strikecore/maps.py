"""Rising maps: checking, comparing, counting and listing them."""

from strikecore.errors import BadMap, TooLarge
from strikecore.masks import bits_of, full_mask, groups_of, lowest_bit, mask_of
from strikecore.masks import masks_above, masks_below, union_of, with_selves
from strikecore.orders import neighbour_masks

MOST_COUNTED_POINTS = 8
MOST_LISTED_POINTS = 10
MOST_VALUES = 16
MOST_LISTED_MAPS = 20000


def check_map(first, second, row):
    """Returns None if row is a rising map from first to second, else raises BadMap."""
    if not has_row_form(first, second, row):
        raise BadMap(None)
    pair = falling_pair(first, with_selves(masks_above(second)), row)
    if pair is not None:
        raise BadMap(pair)


def has_row_form(first, second, row):
    """Whether row, any value, is a tuple with one point of second for each point of first."""
    if not isinstance(row, tuple) or len(row) != first[0]:
        return False
    return all(isinstance(value, int) and 0 <= value < second[0] for value in row)


def falling_pair(first, higher, row):
    """The least pair of first whose values do not rise, or None.

    higher has for each point of second the set of the points that it is at most.
    """
    for x, y in first[1]:
        if not higher[row[x]] >> row[y] & 1:
            return (x, y)
    return None


def identity_map(order):
    """The map that takes each point to itself."""
    return tuple(range(order[0]))


def compose(row, after):
    """The map row, followed by the map after."""
    return tuple(after[value] for value in row)


def at_most(second, low, high):
    """Whether low[x] is at most high[x] for each x."""
    return is_row_at_most(with_selves(masks_above(second)), low, high)


def is_row_at_most(higher, low, high):
    """As at_most, with the points that each point of second is at most."""
    return all(higher[value] >> high[x] & 1 for x, value in enumerate(low))


def are_neighbours(second, row, other):
    """Whether one of two maps is at most the other."""
    return at_most(second, row, other) or at_most(second, other, row)


def count_maps(first, second):
    """The number of rising maps from first to second."""
    if first[0] > MOST_COUNTED_POINTS or second[0] > MOST_VALUES:
        raise TooLarge()
    everything = full_mask(second[0])
    domains = [(x, everything) for x in range(first[0])]
    return MapCount(first, second).count_all(domains)


class MapCount:
    """Counts rising maps whose values at each point are limited to a set.

    Points that have no value yet come as a tuple of pairs (point, set of values).
    One point is given each of its values in turn. The others then fall into parts that
    do not hang together and are counted apart. What was counted is kept, since different
    values often leave the same sets.
    """

    def __init__(self, first, second):
        self.ups = masks_above(first)
        self.downs = masks_below(first)
        # Once a point has its value, only covers still tie the other points together.
        self.near = neighbour_masks(first)
        self.higher = with_selves(masks_above(second))
        self.lower = with_selves(masks_below(second))
        self.counted = {}

    def count_all(self, domains):
        """The number of maps, the points hanging together or not."""
        result = 1
        for group in groups_of(self.near, _points_in(domains)):
            result *= self.count_group(tuple(pair for pair in domains if group >> pair[0] & 1))
            if not result:
                break
        return result

    def count_group(self, domains):
        """The number of maps of points that hang together."""
        if len(domains) == 1:
            return len(bits_of(domains[0][1]))
        if domains not in self.counted:
            self.counted[domains] = self.count_by_value(domains)
        return self.counted[domains]

    def count_by_value(self, domains):
        """The sum over the values of the point with the most neighbours."""
        points = _points_in(domains)
        chosen, values = max(domains, key=lambda pair: len(bits_of(self.near[pair[0]] & points)))
        total = 0
        for value in bits_of(values):
            rest = [(x, self.cut(chosen, value, x, mask)) for x, mask in domains if x != chosen]
            if all(mask for _, mask in rest):
                total += self.count_all(rest)
        return total

    def cut(self, chosen, value, x, mask):
        """What is left of the values of x if the chosen point has this value."""
        if self.ups[chosen] >> x & 1:
            return mask & self.higher[value]
        if self.downs[chosen] >> x & 1:
            return mask & self.lower[value]
        return mask


def _points_in(domains):
    return mask_of([x for x, _ in domains])


def all_maps(first, second):
    """The ascending tuple of all rising maps from first to second."""
    return list_maps(first, second, MOST_LISTED_MAPS)


def list_maps(first, second, most):
    """The ascending tuple of all rising maps; TooLarge for large orders and for more maps than this."""
    if first[0] > MOST_LISTED_POINTS or second[0] > MOST_VALUES:
        raise TooLarge()
    if first[0] and not second[0]:
        return ()
    finder = MapList(first, second, most)
    finder.search([full_mask(second[0])] * first[0])
    return tuple(sorted(finder.found))


class MapList:
    """Goes through the rising maps, the values of each point being limited to a set.

    Before a value is chosen, values are taken out that no neighbour's values allow;
    so few choices lead to no map.
    """

    def __init__(self, first, second, most=MOST_LISTED_MAPS):
        self.ups = masks_above(first)
        self.downs = masks_below(first)
        self.higher = with_selves(masks_above(second))
        self.lower = with_selves(masks_below(second))
        self.most = most
        self.found = []

    def search(self, domains):
        """Puts all maps with values in these sets into found."""
        undecided = [x for x, mask in enumerate(domains) if mask & (mask - 1)]
        if not undecided:
            self.take(domains)
            return
        chosen = min(undecided, key=lambda x: len(bits_of(domains[x])))
        for value in bits_of(domains[chosen]):
            rest = self.narrow(domains, chosen, value)
            if rest is not None:
                self.search(rest)

    def take(self, domains):
        """Keeps the map that takes each point to its only value."""
        if len(self.found) == self.most:
            raise TooLarge()
        self.found.append(tuple(lowest_bit(mask) for mask in domains))

    def least_from(self, domains, x):
        """The least map with values in these sets, those of the points ahead of x being chosen, or None."""
        if x == len(domains):
            return tuple(lowest_bit(mask) for mask in domains)
        for value in bits_of(domains[x]):
            rest = self.narrow(domains, x, value)
            found = None if rest is None else self.least_from(rest, x + 1)
            if found is not None:
                return found
        return None

    def narrow(self, domains, chosen, value):
        """The sets that are left if the chosen point has this value, or None."""
        kept = list(domains)
        kept[chosen] = 1 << value
        changed = [chosen]
        while changed:
            x = changed.pop()
            before = list(kept)
            self.cut(kept, self.ups[x], union_of(self.higher, kept[x]))
            self.cut(kept, self.downs[x], union_of(self.lower, kept[x]))
            if not all(kept):
                return None
            changed.extend([y for y in range(len(kept)) if kept[y] != before[y]])
        return kept

    def cut(self, domains, points, allowed):
        """Takes the values that are not allowed from the sets of some points."""
        for y in bits_of(points):
            domains[y] &= allowed
