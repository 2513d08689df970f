"""Coverings of orders: sheets over each point, tied together along the covers of the order."""

from itertools import permutations

from strikecore.building import induced
from strikecore.cores import is_contractible
from strikecore.errors import BadCovering, NotBelow, NotContractible, NotOver, TooLarge
from strikecore.maps import compose
from strikecore.masks import bits_of, masks_above, masks_below
from strikecore.orders import covers, neighbour_masks, pieces
from strikecore.strikes import partner

MOST_COVERED_POINTS = 16
MOST_SHEETS = 4


def _check_sizes(order, sheets):
    """Raises TooLarge if the functions of this file are not meant for such a covering."""
    if order[0] > MOST_COVERED_POINTS or not 1 <= sheets <= MOST_SHEETS:
        raise TooLarge()


def _turned_back(turn):
    """The turn that leads the other way."""
    return tuple(turn.index(i) for i in range(len(turn)))


def check_table(order, sheets, table):
    """Returns None if table, any value, is a covering table, else raises BadCovering."""
    _check_sizes(order, sheets)
    if not _has_table_form(order, sheets, table):
        raise BadCovering(None)
    ways = Ways(order, sheets, table)
    for x in range(order[0]):
        reached = ways.turns_from(x)
        unclear = [y for y in reached if len(reached[y]) > 1]
        if unclear:
            raise BadCovering((x, min(unclear)))


def _has_table_form(order, sheets, table):
    """Whether table, any value, is a tuple of one triple for each cover, in their order."""
    links = covers(order)
    if not isinstance(table, tuple) or len(table) != len(links):
        return False
    return all(_is_triple(sheets, links[at], item) for at, item in enumerate(table))


def _is_triple(sheets, link, value):
    """Whether a value, any value, is a triple of this cover and a turn."""
    if not isinstance(value, tuple) or len(value) != 3:
        return False
    return value[:2] == link and _is_turn(sheets, value[2])


def _is_turn(sheets, value):
    """Whether a value, any value, has each number of a sheet once."""
    if not isinstance(value, tuple) or not all(isinstance(i, int) for i in value):
        return False
    return sorted(value) == list(range(sheets))


class Ways:
    """Follows the sheets of a table along the ways that lead up through covers."""

    def __init__(self, order, sheets, table):
        self.straight = tuple(range(sheets))
        # For each point those that it covers, with the turns from there.
        self.links = [[] for _ in range(order[0])]
        for x, y, turn in table:
            self.links[y].append((x, turn))
        # A point has fewer points below it than each point above it; so it comes first here.
        sizes = [len(bits_of(mask)) for mask in masks_below(order)]
        self.points = [x for _, x in sorted([(size, x) for x, size in enumerate(sizes)])]

    def turns_from(self, x):
        """For each point that is at least x the list of the unlike turns of all ways from x up to it."""
        reached = {x: [self.straight]}
        for y in self.points:
            near = [(reached[low], turn) for low, turn in self.links[y] if low in reached]
            if near:
                reached[y] = sorted({compose(ahead, turn) for turns, turn in near for ahead in turns})
        return reached

    def turn_up(self, x, y):
        """The turn from x up to y, or None if x is not at most y; the table is taken to agree."""
        turns = self.turns_from(x).get(y)
        return None if turns is None else turns[0]


def along(order, sheets, table, x, y):
    """The turn from x up to y, for x at most y."""
    _check_sizes(order, sheets)
    turn = Ways(order, sheets, table).turn_up(x, y)
    if turn is None:
        raise NotBelow()
    return turn


def covering(order, sheets, table):
    """The order of the sheets over all points: sheet i over x is the point x * sheets + i."""
    _check_sizes(order, sheets)
    ways = Ways(order, sheets, table)
    pairs = [
        (x * sheets + i, y * sheets + j)
        for x, y in order[1]
        for i, j in enumerate(ways.turn_up(x, y))
    ]
    return (order[0] * sheets, tuple(sorted(pairs)))


def sheet_map(order, sheets):
    """The map that takes each sheet to the point that it stands over."""
    _check_sizes(order, sheets)
    return tuple(x for x in range(order[0]) for _ in range(sheets))


def lift(base, order, sheets, table, row, *, point=0, start=0):
    """The map from base to the covering that takes point to start and stands over row."""
    _check_sizes(base, sheets)
    _check_sizes(order, sheets)
    if not is_contractible(base):
        raise NotContractible()
    if start // sheets != row[point]:
        raise NotOver()
    return Lifting(base, order, sheets, table, row).spread(point, start)


class Lifting:
    """Lifts a map into a covering, going from point to point of a connected order."""

    def __init__(self, base, order, sheets, table, row):
        self.ups = masks_above(base)
        self.near = neighbour_masks(base)
        self.sheets = sheets
        self.ways = Ways(order, sheets, table)
        self.row = row

    def spread(self, point, start):
        """The lifted map that takes the point to start."""
        values = {point: start}
        edge = [point]
        while edge:
            x = edge.pop()
            for y in bits_of(self.near[x]):
                if y not in values:
                    values[y] = self.value_beside(x, y, values[x])
                    edge.append(y)
        return tuple(values[x] for x in range(len(self.row)))

    def value_beside(self, x, y, value):
        """The value at y, which covers x or is covered by it, if x has this value."""
        sheet = value % self.sheets
        if self.ups[x] >> y & 1:
            moved = self.ways.turn_up(self.row[x], self.row[y])[sheet]
        else:
            moved = self.ways.turn_up(self.row[y], self.row[x]).index(sheet)
        return self.row[y] * self.sheets + moved


def alike_over(order, sheets, table, other):
    """The least turns of the sheets over each point that lead one covering into the other, or None."""
    _check_sizes(order, sheets)
    search = OverSearch(order, sheets, table, other)
    found = {}
    for piece in pieces(order):
        # Pieces do not matter to one another, so the least turns for each are the least of all.
        turns = search.least_for(piece[0])
        if turns is None:
            return None
        found.update(turns)
    return tuple(found[x] for x in range(order[0]))


class OverSearch:
    """Looks for turns of the sheets over each point that lead one covering over into the other."""

    def __init__(self, order, sheets, table, other):
        self.sheets = sheets
        # For each point its neighbours, with the turns that lead there in both coverings.
        self.links = [[] for _ in range(order[0])]
        for at, (x, y, turn) in enumerate(table):
            turned = other[at][2]
            self.links[x].append((y, turn, turned))
            self.links[y].append((x, _turned_back(turn), _turned_back(turned)))

    def least_for(self, point):
        """The least turns for the piece whose first point is told, as a dict, or None."""
        for chosen in permutations(range(self.sheets)):
            turns = self.spread(point, chosen)
            if turns is not None:
                return turns
        return None

    def spread(self, point, chosen):
        """The turns that follow for the points of a piece if the point has the one chosen, or None."""
        turns = {point: chosen}
        edge = [point]
        while edge:
            x = edge.pop()
            for y, turn, turned in self.links[x]:
                needed = compose(_turned_back(turn), compose(turns[x], turned))
                if y not in turns:
                    turns[y] = needed
                    edge.append(y)
                if turns[y] != needed:
                    return None
        return turns


def drop_covering(order, sheets, table, strike):
    """The table of what the strike leaves, for the covering without the sheets over the struck point."""
    _check_sizes(order, sheets)
    points = tuple(range(order[0]))
    partner(order, points, strike)
    kept = tuple(x for x in points if x != strike[0])
    ways = Ways(order, sheets, table)
    return tuple((i, j, ways.turn_up(kept[i], kept[j])) for i, j in covers(induced(order, kept)))


def grow_covering(order, sheets, strike, table):
    """The table of the order that drop_covering takes to this one, straight beside the struck point."""
    _check_sizes(order, sheets)
    points = tuple(range(order[0]))
    found = partner(order, points, strike)
    kept = tuple(x for x in points if x != strike[0])
    ways = Ways(induced(order, kept), sheets, table)
    # The struck point has the sheets of its partner; so each way to it leads on to the partner's.
    places = [kept.index(found if x == strike[0] else x) for x in points]
    return tuple((x, y, ways.turn_up(places[x], places[y])) for x, y in covers(order))
