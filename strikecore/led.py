"""Whether two rising maps are led into one another, with papers for the answers."""

from strikecore.building import induced
from strikecore.cores import core_strikes, map_to_left, strike_fence
from strikecore.errors import BadStep, TooLarge
from strikecore.maps import are_neighbours, compose, falling_pair, has_row_form
from strikecore.masks import masks_above, with_selves
from strikecore.orders import is_pair
from strikecore.steps import StepRules, apply_steps, fence_steps
from strikecore.strikes import begins_with, left_by, points_left

MOST_LED_POINTS = 16
MOST_PIECE_MAPS = 20000


def core_map(first, second, row):
    """The map between the cores that comes of row."""
    return _map_left(first, second, core_strikes(first), core_strikes(second), row)


def _map_left(first, second, first_strikes, second_strikes, row):
    """The map that comes of row between what striking rows of both orders leave."""
    return compose(compose(points_left(first, first_strikes), row), map_to_left(second, second_strikes))


class PieceWalk:
    """Goes through the piece of a map, in the order of list_piece."""

    def __init__(self, first, second, row):
        self.rules = StepRules(first, second)
        self.rows = [row]
        # For each map of the piece the map that it came of first.
        self.origins = {row: None}

    def walk(self, goal):
        """Goes on until goal is met, or to the end if it is not; returns whether it was met."""
        at = 0
        while at < len(self.rows) and goal not in self.origins:
            self.visit(self.rows[at], goal)
            at += 1
        return goal in self.origins

    def visit(self, row, goal):
        """Takes in the maps that come of row by one step, but none behind goal."""
        for moved in self.rules.maps_near(row):
            if moved not in self.origins:
                if len(self.rows) == MOST_PIECE_MAPS:
                    raise TooLarge()
                self.rows.append(moved)
                self.origins[moved] = row
                if moved == goal:
                    return

    def way_to(self, row):
        """The list of maps that leads from the first one to row."""
        way = []
        while row is not None:
            way.append(row)
            row = self.origins[row]
        return way[::-1]


def list_piece(first, second, row):
    """The maps that row is led into, each behind those that are fewer small steps away."""
    walker = PieceWalk(first, second, row)
    walker.walk(None)
    return tuple(walker.rows)


def led(first, second, start, goal):
    """("led", steps) or ("not", strikes, strikes, piece)."""
    if first[0] > MOST_LED_POINTS or second[0] > MOST_LED_POINTS:
        raise TooLarge()
    first_strikes = core_strikes(first)
    second_strikes = core_strikes(second)
    low = induced(first, points_left(first, first_strikes))
    high = induced(second, points_left(second, second_strikes))
    end = core_map(first, second, goal)
    walker = PieceWalk(low, high, core_map(first, second, start))
    if not walker.walk(end):
        return ("not", first_strikes, second_strikes, tuple(sorted(walker.rows)))
    if are_neighbours(second, start, goal):
        return ("led", fence_steps(first, second, (start, goal)))
    inward = map_to_left(first, first_strikes)
    outward = points_left(second, second_strikes)
    between = [compose(compose(inward, row), outward) for row in walker.way_to(end)]
    back = _fence_over_cores(first, second, goal)[::-1]
    fence = _fence_over_cores(first, second, start) + between + back
    return ("led", fence_steps(first, second, tuple(fence)))


def _fence_over_cores(first, second, row):
    """The fence from row to the map that leads over both cores."""
    rows = [compose(ahead, row) for ahead in strike_fence(first, core_strikes(first))]
    return rows + [compose(rows[-1], after) for after in strike_fence(second, core_strikes(second))]


def check_led(first, second, start, goal, answer):
    """Whether answer, any value, shows that start is led into goal or that it is not."""
    if begins_with(answer, "led", 2):
        return _leads(first, second, start, goal, answer[1])
    return begins_with(answer, "not", 4) and _keeps_apart(first, second, start, goal, answer)


def _leads(first, second, start, goal, steps):
    """Whether steps, any value, are allowed small steps from start to goal."""
    if not isinstance(steps, tuple) or not all(is_pair(step) for step in steps):
        return False
    try:
        return apply_steps(first, second, start, steps) == goal
    except BadStep:
        return False


def _keeps_apart(first, second, start, goal, answer):
    """Whether the piece told has the map that comes of start, not that of goal, and is closed."""
    _, first_strikes, second_strikes, piece = answer
    low = left_by(first, first_strikes)
    high = left_by(second, second_strikes)
    if low is None or high is None:
        return False
    if not _is_closed(induced(first, low), induced(second, high), piece):
        return False
    begin = _map_left(first, second, first_strikes, second_strikes, start)
    end = _map_left(first, second, first_strikes, second_strikes, goal)
    return begin in piece and end not in piece


def _is_closed(first, second, piece):
    """Whether piece, any value, is an ascending tuple of maps that no small step leads out of."""
    if not isinstance(piece, tuple):
        return False
    higher = with_selves(masks_above(second))
    for row in piece:
        if not has_row_form(first, second, row) or falling_pair(first, higher, row) is not None:
            return False
    if any(piece[k] >= piece[k + 1] for k in range(len(piece) - 1)):
        return False
    rules = StepRules(first, second)
    known = {row: True for row in piece}
    return all(_has_all(known, rules.maps_near(row)) for row in piece)


def _has_all(known, rows):
    return all(row in known for row in rows)
