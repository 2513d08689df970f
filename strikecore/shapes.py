"""Whether two orders are of one shape, with papers for the answers."""

from strikecore.alike import is_renaming, renaming_of
from strikecore.building import induced
from strikecore.cores import core_strikes, map_to_left, strike_fence
from strikecore.errors import BadOrder, NotTaken
from strikecore.maps import MOST_COUNTED_POINTS, MOST_VALUES, compose
from strikecore.orders import check_order
from strikecore.quotients import find_test, test_counts
from strikecore.strikes import begins_with, is_finished, left_by, points_left

ONE_POINT = (1, ())


def same_shape(first, second):
    """("yes", strikes, strikes, renaming) or ("no", strikes, strikes, test)."""
    first_strikes = core_strikes(first)
    second_strikes = core_strikes(second)
    low = induced(first, points_left(first, first_strikes))
    high = induced(second, points_left(second, second_strikes))
    renaming = renaming_of(low, high)
    if renaming is not None:
        return ("yes", first_strikes, second_strikes, renaming)
    # find_test takes small orders only, but cores of unlike sizes may be large.
    test = find_test(low, high) if low[0] == high[0] else ONE_POINT
    return ("no", first_strikes, second_strikes, test)


def check_shape(first, second, answer):
    """Whether answer, any value, shows that the orders are of one shape or that they are not."""
    if begins_with(answer, "yes", 4):
        return _is_yes(first, second, answer)
    return begins_with(answer, "no", 4) and _is_no(first, second, answer)


def _is_yes(first, second, answer):
    low = left_by(first, answer[1])
    high = left_by(second, answer[2])
    if low is None or high is None:
        return False
    return is_renaming(induced(first, low), induced(second, high), answer[3])


def _is_no(first, second, answer):
    _, first_strikes, second_strikes, test = answer
    low = left_by(first, first_strikes)
    high = left_by(second, second_strikes)
    if low is None or high is None:
        return False
    if not is_finished(first, first_strikes) or not is_finished(second, second_strikes):
        return False
    return _tells_apart(test, induced(first, low), induced(second, high))


def _tells_apart(test, first, second):
    """Whether test, any value, is a small order with unlike numbers of maps to both orders."""
    if test == ONE_POINT:
        return first[0] != second[0]
    try:
        check_order(test)
    except BadOrder:
        return False
    if test[0] > MOST_COUNTED_POINTS or first[0] > MOST_VALUES or second[0] > MOST_VALUES:
        return False
    counts = test_counts(test, first, second)
    return counts[0] != counts[1]


def shape_maps(first, second, answer):
    """The maps to and fro between orders of one shape, and the fences that show it."""
    if not begins_with(answer, "yes", 4) or not check_shape(first, second, answer):
        raise NotTaken()
    _, first_strikes, second_strikes, renaming = answer
    back = tuple(renaming.index(i) for i in range(len(renaming)))
    return (
        _map_over(first, first_strikes, renaming, points_left(second, second_strikes)),
        _map_over(second, second_strikes, back, points_left(first, first_strikes)),
        strike_fence(first, first_strikes),
        strike_fence(second, second_strikes),
    )


def _map_over(order, strikes, renaming, others):
    """The map to what the strikes leave, renamed, and from there to the other order's points left."""
    return compose(compose(map_to_left(order, strikes), renaming), others)
