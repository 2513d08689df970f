"""Whether weak strikes, made and taken back, lead from one order to another, with papers."""

from strikecore.alike import is_renaming, renaming_of
from strikecore.building import induced
from strikecore.chains import homology
from strikecore.errors import TooLarge
from strikecore.strikes import begins_with
from strikecore.weak import weak_left, weak_left_by, weak_row


def joined(first, second):
    """("joined", strikes, strikes, renaming), ("not", numbers, numbers) or ("open",)."""
    first_strikes = weak_row(first)
    second_strikes = weak_row(second)
    low = induced(first, weak_left(first, first_strikes))
    high = induced(second, weak_left(second, second_strikes))
    renaming = renaming_of(low, high)
    if renaming is not None:
        return ("joined", first_strikes, second_strikes, renaming)
    numbers = homology(first)
    others = homology(second)
    if numbers != others:
        return ("not", numbers, others)
    return ("open",)


def check_joined(first, second, answer):
    """Whether answer, any value, shows that weak strikes join the orders or that none do."""
    if begins_with(answer, "joined", 4):
        return _is_joined(first, second, answer)
    return begins_with(answer, "not", 3) and _is_apart(first, second, answer)


def _is_joined(first, second, answer):
    low = weak_left_by(first, answer[1])
    high = weak_left_by(second, answer[2])
    if low is None or high is None:
        return False
    return is_renaming(induced(first, low), induced(second, high), answer[3])


def _is_apart(first, second, answer):
    if answer[1] == answer[2]:
        return False
    try:
        return answer[1] == homology(first) and answer[2] == homology(second)
    except TooLarge:
        return False
