"""Chains of points, and the numbers that are counted by them."""

from strikecore.building import induced
from strikecore.errors import TooLarge
from strikecore.masks import bits_of, masks_above, masks_below, with_selves
from strikecore.weak import weak_left, weak_row

MOST_CHAIN_POINTS = 10


def chains(order):
    """All chains, shorter ones first, those of one length ascending."""
    return tuple(chain for row in chains_by_length(order) for chain in row)


def chains_by_length(order):
    """The list of the ascending lists of the chains of the lengths 0, 1, 2, .."""
    if order[0] > MOST_CHAIN_POINTS:
        raise TooLarge()
    ups = masks_above(order)
    rows = []
    row = [(x,) for x in range(order[0])]
    while row:
        rows.append(row)
        row = [chain + (y,) for chain in row for y in bits_of(ups[chain[-1]])]
    return rows


def chain_counts(order):
    """The numbers of chains of the lengths 0, 1, 2, .. up to the greatest length."""
    downs = [bits_of(mask) for mask in masks_below(order)]
    counts = []
    # For each point the number of chains of the present length that end there.
    ending = [1] * order[0]
    while any(ending):
        counts.append(sum(ending))
        ending = [sum([ending[x] for x in points]) for points in downs]
    return tuple(counts)


def euler(order):
    """The number of chains of even length less that of odd length."""
    counts = chain_counts(order)
    return sum(counts[::2]) - sum(counts[1::2])


def moebius(order, x, y):
    """1 for x = y, 0 if x is not at most y, else minus the sum over the points from x to below y."""
    downs = masks_below(order)
    between = with_selves(downs)[y] & with_selves(masks_above(order))[x]
    # A point has fewer points below it than each point above it.
    points = sorted([(len(bits_of(downs[z])), z) for z in bits_of(between)])
    values = {}
    for _, z in points:
        values[z] = 1 if z == x else -sum([values[low] for low in bits_of(downs[z] & between)])
    return values.get(y, 0)


def homology(order):
    """The homology numbers, without zeros at their end."""
    # A weak row keeps these numbers, and what it leaves has far fewer chains.
    rows = chains_by_length(induced(order, weak_left(order, weak_row(order))))
    ranks = [_rank([_faces(chain) for chain in row]) for row in rows] + [0]
    numbers = [len(row) - ranks[k] - ranks[k + 1] for k, row in enumerate(rows)]
    while numbers and not numbers[-1]:
        numbers.pop()
    return tuple(numbers)


def _faces(chain):
    """What D takes a chain to: the chains without one of its points, each with its sign."""
    if len(chain) == 1:
        return {}
    return {chain[:i] + chain[i + 1 :]: -1 if i & 1 else 1 for i in range(len(chain))}


def _rank(rows):
    """The rank of rows, each a dict of its numbers other than 0."""
    pivots = {}
    for row in rows:
        rest = _reduced(row, pivots)
        if rest:
            pivots[max(rest)] = rest
    return len(pivots)


def _reduced(row, pivots):
    """What is left of a row, up to a factor, when the pivots have taken out all that they can."""
    rest = row
    while rest and max(rest) in pivots:
        at = max(rest)
        rest = _without(rest, pivots[at], at)
    return rest


def _without(row, other, at):
    """A sum of multiples of two rows, in whole numbers, that has nothing in the place told."""
    factor = other[at]
    taken = row[at]
    mixed = {key: row.get(key, 0) * factor - other.get(key, 0) * taken for key in [*row, *other]}
    return {key: mixed[key] for key in mixed if mixed[key]}
