"""Fibres of rising maps, and the cylinder that holds both orders of a map."""

from strikecore.building import beside
from strikecore.cores import contracts
from strikecore.errors import BadFibre
from strikecore.masks import bits_of, full_mask, mask_of, masks_above, masks_below, with_selves
from strikecore.strikes import top_of


def fibre(first, second, row, q, *, side="below"):
    """The points of first that row takes to points at most q, or at least q for the side "above"."""
    near = masks_below(second) if side == "below" else masks_above(second)
    return tuple(bits_of(_fibre_of(row, with_selves(near)[q])))


def _fibre_of(row, values):
    """The set of the points that row takes into a set of values."""
    return mask_of([x for x, value in enumerate(row) if values >> value & 1])


def _fibres_below(second, row):
    """For each point of second the set of the points of its fibre below."""
    return [_fibre_of(row, values) for values in with_selves(masks_below(second))]


def adjoint(first, second, row):
    """The greatest points of the fibres below, or None if one of these has no greatest point."""
    ups = masks_above(first)
    downs = masks_below(first)
    tops = tuple(top_of(ups, downs, points) for points in _fibres_below(second, row))
    return None if None in tops else tops


def cylinder(first, second, row):
    """Both orders beside one another, each point of first below its value in second."""
    n, pairs = beside(first, second)
    higher = with_selves(masks_above(second))
    between = [(x, first[0] + q) for x, value in enumerate(row) for q in bits_of(higher[value])]
    return (n, tuple(sorted([*pairs, *between])))


def onto_second(first, second, row):
    """The striking row of the cylinder that strikes the points of first up, greater numbers first."""
    ups = masks_above(cylinder(first, second, row))
    left = full_mask(first[0])
    strikes = []
    while left:
        x = max([y for y in bits_of(left) if not ups[y] & left])
        strikes.append((x, "up"))
        left ^= 1 << x
    return tuple(strikes)


def onto_first(first, second, row):
    """The weak row of the cylinder that strikes the points of second below, lesser numbers first."""
    n = first[0]
    downs = masks_below(cylinder(first, second, row))
    _check_fibres(first, second, row)
    left = full_mask(second[0]) << n
    strikes = []
    while left:
        x = min([y for y in bits_of(left) if not downs[y] & left])
        strikes.append((x, "below"))
        left ^= 1 << x
    return tuple(strikes)


def _check_fibres(first, second, row):
    """Raises BadFibre for the least point of second whose fibre below is not contractible."""
    ups = masks_above(first)
    downs = masks_below(first)
    for q, points in enumerate(_fibres_below(second, row)):
        if not contracts(ups, downs, points):
            raise BadFibre(q)
