"""Small steps from map to map, and fences of maps."""

from strikecore.errors import BadStep, NotAbove
from strikecore.maps import at_most, falling_pair, has_row_form, is_row_at_most
from strikecore.masks import bits_of, lowest_bit, mask_of, masks_above, masks_below, with_selves
from strikecore.orders import covers, neighbour_masks


class StepRules:
    """Tells which small steps between the maps of two orders are allowed."""

    def __init__(self, first, second):
        self.n = first[0]
        self.m = second[0]
        links = (first[0], covers(first))
        # A map rises if its values rise along covers.
        self.over = [bits_of(mask) for mask in masks_above(links)]
        self.under = [bits_of(mask) for mask in masks_below(links)]
        self.near = neighbour_masks(second)
        self.higher = with_selves(masks_above(second))
        self.lower = with_selves(masks_below(second))

    def allows(self, row, x, value):
        """Whether the rising map row may take x, any integer, to this value, any integer, next."""
        if not 0 <= x < self.n or not 0 <= value < self.m:
            return False
        return bool(self.values_at(row, x) >> value & 1)

    def values_at(self, row, x):
        """The set of the values to which the rising map row may take the point x next."""
        values = self.near[row[x]]
        # Only pairs with x in them can be broken.
        for y in self.over[x]:
            values &= self.lower[row[y]]
        for y in self.under[x]:
            values &= self.higher[row[y]]
        return values

    def maps_near(self, row):
        """The maps that come of the rising map row by one allowed step, by the order of the steps."""
        return [row[:x] + (value,) + row[x + 1 :] for x in range(self.n) for value in bits_of(self.values_at(row, x))]


def apply_steps(first, second, row, steps):
    """The map behind all steps; BadStep with the place of the first one that is not allowed."""
    rules = StepRules(first, second)
    present = list(row)
    for at, (x, value) in enumerate(steps):
        if not rules.allows(present, x, value):
            raise BadStep(at)
        present[x] = value
    return tuple(present)


def steps_up(first, second, low, high):
    """Small steps from low to high, each to a value that covers the present one."""
    if not at_most(second, low, high):
        raise NotAbove()
    ups = masks_above(first)
    cover_ups = masks_above((second[0], covers(second)))
    lower = with_selves(masks_below(second))
    present = list(low)
    unlike = mask_of([x for x in range(first[0]) if low[x] != high[x]])
    steps = []
    while unlike:
        x = _first_top(ups, unlike)
        present[x] = lowest_bit(cover_ups[present[x]] & lower[high[x]])
        steps.append((x, present[x]))
        if present[x] == high[x]:
            unlike ^= 1 << x
    return tuple(steps)


def _first_top(ups, mask):
    """The least of the points of a set that have no point of the set above them."""
    for x in bits_of(mask):
        if not ups[x] & mask:
            return x
    return None


def steps_down(first, second, high, low):
    """The steps of steps_up from low to high, walked back."""
    present = list(low)
    steps = []
    for x, value in steps_up(first, second, low, high):
        steps.append((x, present[x]))
        present[x] = value
    return tuple(steps[::-1])


def check_fence(first, second, rows):
    """Whether rows, any value, is a fence of rising maps from first to second."""
    if not isinstance(rows, tuple) or not rows:
        return False
    higher = with_selves(masks_above(second))
    for row in rows:
        if not has_row_form(first, second, row) or falling_pair(first, higher, row) is not None:
            return False
    return all(_are_near(higher, rows[k], rows[k + 1]) for k in range(len(rows) - 1))


def _are_near(higher, row, other):
    return is_row_at_most(higher, row, other) or is_row_at_most(higher, other, row)


def fence_steps(first, second, rows):
    """The small steps along a fence."""
    steps = []
    for k in range(len(rows) - 1):
        if at_most(second, rows[k], rows[k + 1]):
            steps.extend(steps_up(first, second, rows[k], rows[k + 1]))
        else:
            steps.extend(steps_down(first, second, rows[k], rows[k + 1]))
    return tuple(steps)
