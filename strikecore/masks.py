"""Sets of points as integers: bit x stands for the point x.

A union or an intersection of whole sets is one operation on such integers;
so the other files of the package work with them inside.
"""


def lowest_bit(mask):
    """The least point of a set that is not empty."""
    return (mask & -mask).bit_length() - 1


def bits_of(mask):
    """The ascending list of the points of a set."""
    points = []
    while mask:
        x = lowest_bit(mask)
        points.append(x)
        mask ^= 1 << x
    return points


def mask_of(points):
    """The set of the points of a tuple."""
    mask = 0
    for x in points:
        mask |= 1 << x
    return mask


def full_mask(n):
    """The set of the points 0 to n - 1."""
    return (1 << n) - 1


def masks_above(order):
    """For each point the set of the points above it."""
    n, pairs = order
    ups = [0] * n
    for x, y in pairs:
        ups[x] |= 1 << y
    return ups


def masks_below(order):
    """For each point the set of the points below it."""
    n, pairs = order
    downs = [0] * n
    for x, y in pairs:
        downs[y] |= 1 << x
    return downs


def with_selves(masks):
    """The sets of the points, each point put into its own set."""
    return [mask | 1 << x for x, mask in enumerate(masks)]


def union_of(masks, mask):
    """The union of the sets of those points that mask has."""
    union = 0
    for x in bits_of(mask):
        union |= masks[x]
    return union


def groups_of(near, mask):
    """The parts of mask that hang together, by their first points.

    near has for each point the set of its neighbours; only ways within mask count.
    """
    groups = []
    while mask:
        group = 0
        edge = mask & -mask
        while edge:
            group |= edge
            edge = union_of(near, edge) & mask & ~group
        groups.append(group)
        mask ^= group
    return groups


def order_from(ups):
    """The order in which the points above each point are told."""
    pairs = [(x, y) for x, mask in enumerate(ups) for y in bits_of(mask)]
    return (len(ups), tuple(pairs))
