"""What a receiver is, and what a stand of it."""

from lateposts.bounds import MAX_BOUND, MAX_ROWS, MAX_STATES
from lateposts.kinds import is_index, is_integer, is_tuple

DEEDS = ("take", "keep", "leave", "drop")


def lies_in(number, limits):
    """Whether a number lies in a range."""
    low, high = limits
    return (low is None or low <= number) and (high is None or number <= high)


def receiver_error(value):
    """None if a value is a receiver, otherwise the path and the word of its first error."""
    if not is_tuple(value, 1, MAX_STATES):
        return ((), "receiver")
    for at, state in enumerate(value):
        error = _state_error(at, state, len(value))
        if error is not None:
            return error
    return None


def is_stand(receiver, value):
    """Whether a value is a stand of the receiver."""
    if not is_tuple(value, 3, 3):
        return False
    state, last, kept = value
    if not is_index(state, len(receiver)) or not is_integer(last):
        return False
    return kept is None or (is_integer(kept) and abs(kept - last) <= MAX_BOUND)


def _state_error(at, state, many):
    if not is_tuple(state, 0, MAX_ROWS):
        return ((at,), "state")
    for row_at, row in enumerate(state):
        word = _row_word(row, many)
        if word is not None:
            return ((at, row_at), word)
    return None


def _row_word(row, many):
    if not is_tuple(row, 4, 4):
        return "row"
    ahead, after, deed, to_state = row
    if not _is_range(ahead):
        return "ahead"
    if after is not None and not _is_range(after):
        return "after"
    if not _is_deed(deed):
        return "deed"
    if not is_index(to_state, many):
        return "next"
    if deed == "keep" and None in ahead:
        return "keep"
    return None


def _is_range(value):
    if not is_tuple(value, 2, 2):
        return False
    low, high = value
    if not _is_limit(low) or not _is_limit(high):
        return False
    return low is None or high is None or low <= high


def _is_limit(value):
    return value is None or (is_integer(value) and abs(value) <= MAX_BOUND)


def _is_deed(value):
    return isinstance(value, str) and value in DEEDS
