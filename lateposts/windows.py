"""Receivers of common kinds: windows, and those that take numbers further ahead only behind one another."""

from lateposts.bounds import MAX_BOUND, MAX_STATES
from lateposts.errors import BadSize
from lateposts.kinds import is_integer


def window(size):
    """The receiver that takes the numbers that are at most so many ahead."""
    _check_size(size, 1, MAX_BOUND)
    return ((_row_at_once(size),),)


def paired(size, wide, times):
    """The receiver that takes the numbers behind those of the window, up to wide, as the last of so many in a row."""
    _check_size(size, 1, MAX_BOUND - 1)
    _check_size(wide, size + 1, MAX_BOUND)
    _check_size(times, 2, MAX_STATES)
    ahead = (size + 1, wide)
    at_once = _row_at_once(size)
    anew = (ahead, None, "keep", 1)
    states = [(at_once, anew)]
    for to_state in range(2, times):
        states.append((at_once, (ahead, (1, 1), "keep", to_state), anew))
    states.append((at_once, (ahead, (1, 1), "take", 0), anew))
    return tuple(states)


def _row_at_once(size):
    return ((1, size), None, "take", 0)


def _check_size(value, least, most):
    if not is_integer(value) or not least <= value <= most:
        raise BadSize(value)
