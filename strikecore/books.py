"""Books: an order that is edited, with undo and redo."""

from strikecore.building import beside, induced, on_top, opposite
from strikecore.errors import BadEdit, NothingLeft, TooLarge, UnknownPoint
from strikecore.masks import bits_of, lowest_bit, mask_of, masks_above, masks_below, order_from, with_selves
from strikecore.orders import MOST_POINTS, check_order, covers


class Book:
    """Keeps an order, changes it, and takes changes back."""

    def __init__(self, order):
        check_order(order)
        self.present = order
        # Orders are kept as the sets of the points above each point, which are far smaller than pairs.
        self.past = []
        self.undone = []

    @property
    def order(self):
        """The present order."""
        return self.present

    def put_point(self, under, over):
        """Puts in a point above those of under and below those of over; returns its number."""
        n, pairs = self.present
        if n == MOST_POINTS:
            raise TooLarge()
        _check_place(self.present, under, over)
        links = [(x, n) for x in under] + [(n, y) for y in over]
        self.edit((n + 1, tuple(sorted([*pairs, *links]))))
        return n

    def drop_point(self, x):
        """Takes a point out; greater numbers become less by 1."""
        self.check_point(x)
        self.edit(induced(self.present, tuple(y for y in range(self.present[0]) if y != x)))

    def put_pair(self, x, y):
        """Makes x below y; returns the pairs that are new."""
        self.check_point(x)
        self.check_point(y)
        ups = masks_above(self.present)
        if with_selves(ups)[y] >> x & 1:
            raise BadEdit("turned", (x, y))
        lows = with_selves(masks_below(self.present))[x]
        highs = with_selves(ups)[y]
        new = [(low, high) for low in bits_of(lows) for high in bits_of(highs & ~ups[low])]
        self.edit((self.present[0], tuple(sorted([*self.present[1], *new]))))
        return tuple(new)

    def drop_pair(self, x, y):
        """Takes out one pair; y has to cover x."""
        self.check_point(x)
        self.check_point(y)
        if (x, y) not in covers(self.present):
            raise BadEdit("cover", (x, y))
        n, pairs = self.present
        self.edit((n, tuple(pair for pair in pairs if pair != (x, y))))

    def put_beside(self, other):
        """Puts another order beside the present one."""
        self.edit(beside(self.present, other))

    def put_on_top(self, other):
        """Puts another order on top of the present one."""
        self.edit(on_top(self.present, other))

    def turn(self):
        """Turns the order about."""
        self.edit(opposite(self.present))

    def undo(self):
        """Brings back the order before the last edit that is not undone."""
        if not self.past:
            raise NothingLeft()
        self.undone.append(masks_above(self.present))
        self.present = order_from(self.past.pop())

    def redo(self):
        """Brings back the order behind the edit that was undone last."""
        if not self.undone:
            raise NothingLeft()
        self.past.append(masks_above(self.present))
        self.present = order_from(self.undone.pop())

    def check_point(self, x):
        """Raises UnknownPoint if x is no point."""
        if not 0 <= x < self.present[0]:
            raise UnknownPoint(x)

    def edit(self, order):
        """Makes the order the present one."""
        self.past.append(masks_above(self.present))
        self.undone = []
        self.present = order


def _check_place(order, under, over):
    """Raises BadEdit if a new point cannot stand above under, any value, and below over, any value."""
    if not _is_part(order, under):
        raise BadEdit("under", None)
    if not _is_part(order, over):
        raise BadEdit("over", None)
    ups = masks_above(order)
    _check_all_in("below", masks_below(order), under, mask_of(under))
    _check_all_in("above", ups, over, mask_of(over))
    for x in under:
        apart = mask_of(over) & ~ups[x]
        if apart:
            raise BadEdit("between", (x, lowest_bit(apart)))


def _is_part(order, value):
    """Whether value, any value, is an ascending tuple of points."""
    if not isinstance(value, tuple):
        return False
    if not all(isinstance(x, int) and 0 <= x < order[0] for x in value):
        return False
    return all(value[k] < value[k + 1] for k in range(len(value) - 1))


def _check_all_in(kind, near, points, allowed):
    """Raises BadEdit for the least point and the least one near it that is not allowed."""
    for x in points:
        missing = near[x] & ~allowed
        if missing:
            raise BadEdit(kind, (x, lowest_bit(missing)))
