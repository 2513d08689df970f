"""What the tests compare with: the words of the document, followed literally and slowly."""

import itertools
import random

EMPTY = (0, ())
POINT = (1, ())
CROWN = (4, ((0, 2), (0, 3), (1, 2), (1, 3)))
VEE = (3, ((0, 1), (0, 2)))
WEDGE = (3, ((0, 2), (1, 2)))
HUGE = 10 ** 60 - 1


def chain(n):
    return (n, tuple((x, y) for x in range(n) for y in range(x + 1, n)))


def antichain(n):
    return (n, ())


def ring(k):
    """The order crown(k) of the document."""
    return (2 * k, tuple(sorted({(i % k, k + j) for j in range(k) for i in (j, j + 1)})))


def closure(pairs):
    known = set(pairs)
    while True:
        more = {(x, z) for x, y in known for w, z in known if y == w} - known
        if not more:
            return known
        known |= more


def is_order(n, pairs):
    known = set(pairs)
    if any(x == y or (y, x) in known for x, y in known):
        return False
    return closure(known) == known


def all_orders(n):
    """All orders of n points; n is at most 4."""
    places = [(x, y) for x in range(n) for y in range(n) if x != y]
    found = []
    for bits in itertools.product((False, True), repeat=len(places)):
        pairs = tuple(pair for pair, bit in zip(places, bits) if bit)
        if is_order(n, pairs):
            found.append((n, pairs))
    return found


SMALL_ORDERS = [order for n in range(4) for order in all_orders(n)]


def random_order(n, density, source):
    names = list(range(n))
    source.shuffle(names)
    links = {(names[i], names[j]) for i in range(n) for j in range(i + 1, n) if source.random() < density}
    return (n, tuple(sorted(closure(links))))


def random_orders(many, largest, seed, smallest=0):
    source = random.Random(seed)
    orders = []
    for _ in range(many):
        orders.append(random_order(source.randint(smallest, largest), source.choice((0.1, 0.25, 0.4, 0.6)), source))
    return orders


def subsets(n):
    """All ascending tuples of points."""
    return [points for size in range(n + 1) for points in itertools.combinations(range(n), size)]


def is_at_most(order, x, y):
    return x == y or (x, y) in order[1]


def covers(order):
    n, pairs = order
    return tuple(
        (x, y) for x, y in pairs if not any((x, z) in pairs and (z, y) in pairs for z in range(n))
    )


def induced(order, points):
    n = len(points)
    return (n, tuple((i, j) for i in range(n) for j in range(n) if (points[i], points[j]) in order[1]))


def are_alike(first, second):
    """Tries all renamings; for small orders."""
    if first[0] != second[0] or len(first[1]) != len(second[1]):
        return False
    target = set(second[1])
    return any(
        all((names[x], names[y]) in target for x, y in first[1])
        for names in itertools.permutations(range(first[0]))
    )


def is_rising(first, second, row):
    return all(is_at_most(second, row[x], row[y]) for x, y in first[1])


def maps_by_trying(first, second):
    rows = itertools.product(range(second[0]), repeat=first[0])
    return tuple(row for row in rows if is_rising(first, second, row))


def step_is_allowed(first, second, row, step):
    """Whether a rising map may take this step."""
    x, value = step
    if x not in range(first[0]) or value not in range(second[0]):
        return False
    near = covers(second)
    if (row[x], value) not in near and (value, row[x]) not in near:
        return False
    return is_rising(first, second, row[:x] + (value,) + row[x + 1:])


def partner(order, points, strike):
    """The partner, or None if the strike cannot be made."""
    x, way = strike
    if x not in points:
        return None
    if way == "down":
        near = [y for y in points if (y, x) in order[1]]
        ends = [y for y in near if all(is_at_most(order, z, y) for z in near)]
    else:
        near = [y for y in points if (x, y) in order[1]]
        ends = [y for y in near if all(is_at_most(order, y, z) for z in near)]
    return ends[0] if ends else None


def strikes_of(order, points):
    every = sorted((x, way) for x in points for way in ("up", "down"))
    return tuple(strike for strike in every if partner(order, points, strike) is not None)


def core_strikes(order):
    points = tuple(range(order[0]))
    row = ()
    while strikes_of(order, points):
        strike = strikes_of(order, points)[0]
        row += (strike,)
        points = tuple(x for x in points if x != strike[0])
    return row


def random_row(order, source, length=None, moves_of=strikes_of):
    """A row of random strikes; until there is none if no length is told."""
    points = tuple(range(order[0]))
    row = ()
    while moves_of(order, points) and len(row) != length:
        strike = source.choice(moves_of(order, points))
        row += (strike,)
        points = tuple(x for x in points if x != strike[0])
    return row


def left_by(order, row):
    struck = [x for x, _ in row]
    return tuple(x for x in range(order[0]) if x not in struck)


def renamed(order, names):
    """The order with names[x] in the place of x."""
    return (order[0], tuple(sorted((names[x], names[y]) for x, y in order[1])))


def shuffled(order, source):
    names = list(range(order[0]))
    source.shuffle(names)
    return renamed(order, names)


def renamings(first, second):
    """All renamings, ascending, found by trying all rows; for small orders."""
    if first[0] != second[0]:
        return []
    rows = itertools.permutations(range(first[0]))
    return [row for row in rows if renamed(first, row) == second]


def beside(first, second):
    n = first[0]
    return (n + second[0], first[1] + tuple((x + n, y + n) for x, y in second[1]))


def label_rows(n):
    """All ways to put n points together, each as one row of labels."""
    rows = itertools.product(range(n), repeat=n)
    return [row for row in rows if list(dict.fromkeys(row)) == list(range(len(set(row))))]


def quotient(order, labels):
    names = list(dict.fromkeys(labels))
    classes = [names.index(label) for label in labels]
    pairs = closure({(classes[x], classes[y]) for x, y in order[1] if classes[x] != classes[y]})
    if any((y, x) in pairs for x, y in pairs):
        return None
    return (len(names), tuple(sorted(pairs)))


def led_on(order, row):
    """For each point the point left that its partners lead to."""
    partners = {}
    points = tuple(range(order[0]))
    for strike in row:
        partners[strike[0]] = partner(order, points, strike)
        points = tuple(x for x in points if x != strike[0])
    ends = []
    for x in range(order[0]):
        while x in partners:
            x = partners[x]
        ends.append(x)
    return tuple(ends)


def points_below(order, points, x):
    return tuple(y for y in points if (y, x) in order[1])


def points_above(order, points, x):
    return tuple(y for y in points if (x, y) in order[1])


def steps_near(first, second, row):
    """All allowed small steps, ascending."""
    steps = itertools.product(range(first[0]), range(second[0]))
    return [step for step in steps if step_is_allowed(first, second, row, step)]


def after_step(row, step):
    x, value = step
    return row[:x] + (value,) + row[x + 1:]


def piece(first, second, row):
    """The piece of a map in the sequence that [33] tells."""
    rows = [row]
    for present in rows:
        for step in steps_near(first, second, present):
            if after_step(present, step) not in rows:
                rows.append(after_step(present, step))
    return tuple(rows)


def map_left(first, second, a, b, row):
    """The map that comes of row between what striking rows leave."""
    ends = led_on(second, b)
    left = left_by(second, b)
    return tuple(left.index(ends[row[x]]) for x in left_by(first, a))


def is_contractible(order, points):
    part = induced(order, points)
    return len(core_strikes(part)) == part[0] - 1


def weak_strikes_of(order, points):
    strikes = [(x, "above") for x in points if is_contractible(order, points_above(order, points, x))]
    strikes += [(x, "below") for x in points if is_contractible(order, points_below(order, points, x))]
    return tuple(sorted(strikes))


def weak_row(order):
    points = tuple(range(order[0]))
    row = ()
    while weak_strikes_of(order, points):
        every = weak_strikes_of(order, points)
        x = every[0][0]
        row += ((x, "below" if (x, "below") in every else "above"),)
        points = tuple(y for y in points if y != x)
    return row


def random_weak_row(order, source, length=None):
    return random_row(order, source, length, weak_strikes_of)


def chains(order):
    """All chains in the sequence of [37], found among all rows of points; for small orders."""
    found = []
    for size in range(1, order[0] + 1):
        rows = itertools.permutations(range(order[0]), size)
        found += [row for row in rows if all((row[i], row[i + 1]) in order[1] for i in range(size - 1))]
    return tuple(found)


def is_plain(value):
    """Whether a value is built of plain tuples, strings, integers and None only."""
    if type(value) is tuple:
        return all(is_plain(item) for item in value)
    return value is None or type(value) is int or type(value) is str


STRANGE_VALUES = (
    None,
    (),
    "",
    "order",
    "(0, ())",
    0,
    1,
    -1,
    64,
    65,
    HUGE,
    -HUGE,
    (None,),
    ((),),
    ((), ()),
    ("", ""),
    (0,),
    (0, (), ()),
    (0, None),
    (0, 0),
    (0, "ab"),
    ("0", ()),
    (None, ()),
    ((), 0),
    ((0, ()),),
    (((((((((((1,),),),),),),),),),),),
    ((0, 1), (1, 2)),
    (0, 1, 2, None),
    (0, "1"),
    (0, (1,)),
    (HUGE, -HUGE),
    tuple(range(1000)),
    (None,) * 1000,
    ((0, 1),) * 1000,
)
