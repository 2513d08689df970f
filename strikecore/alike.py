"""Orders that are alike: renamings of one to another."""

from strikecore.errors import TooLarge
from strikecore.maps import has_row_form
from strikecore.masks import bits_of, masks_above, masks_below

MOST_RENAMED_POINTS = 8


def renaming_of(first, second):
    """The least renaming of first to second, or None if the orders are not alike."""
    if first[0] != second[0]:
        return None
    if first[0] > MOST_RENAMED_POINTS:
        raise TooLarge()
    return RenamingSearch(first, second).least_from(())


class RenamingSearch:
    """Looks for renamings of first to second, two orders of equally many points."""

    def __init__(self, first, second):
        self.ups = masks_above(first)
        self.downs = masks_below(first)
        self.new_ups = masks_above(second)
        self.new_downs = masks_below(second)
        # A renaming keeps the numbers of points above and below.
        self.kinds = _counts_of(self.ups, self.downs)
        self.new_kinds = _counts_of(self.new_ups, self.new_downs)

    def least_from(self, row):
        """The least renaming that begins with row, or None."""
        if len(row) == len(self.ups):
            return row
        for value in range(len(self.ups)):
            if self.fits(row, value):
                found = self.least_from(row + (value,))
                if found is not None:
                    return found
        return None

    def all_from(self, row):
        """The ascending list of all renamings that begin with row."""
        if len(row) == len(self.ups):
            return [row]
        found = []
        for value in range(len(self.ups)):
            if self.fits(row, value):
                found.extend(self.all_from(row + (value,)))
        return found

    def fits(self, row, value):
        """Whether row, the beginning of a renaming, may go on with this value."""
        x = len(row)
        if value in row or self.kinds[x] != self.new_kinds[value]:
            return False
        for y, other in enumerate(row):
            if self.ups[x] >> y & 1 != self.new_ups[value] >> other & 1:
                return False
            if self.downs[x] >> y & 1 != self.new_downs[value] >> other & 1:
                return False
        return True


def _counts_of(ups, downs):
    return [(len(bits_of(ups[x])), len(bits_of(downs[x]))) for x in range(len(ups))]


def is_renaming(first, second, value):
    """Whether value, any value, is a renaming of first to second."""
    if first[0] != second[0] or not has_row_form(first, second, value):
        return False
    if len(set(value)) != first[0]:
        return False
    return tuple(sorted([(value[x], value[y]) for x, y in first[1]])) == second[1]
