"""Logs: what they tell of the number that was last."""

from lateposts.bounds import MAX_LOG
from lateposts.errors import NoFit
from lateposts.kinds import is_integer, is_tuple
from lateposts.rests import near_step, step_from


def is_log(value):
    """Whether any value is a log."""
    return is_tuple(value, 0, MAX_LOG) and all([_is_pair(pair) for pair in value])


def fits(receiver, log):
    """The ascending tuple of the ranges of the numbers from which the log fits."""
    known = {}
    return _joined([limits for limits in _parts(receiver, log) if _fits_from(receiver, log, _one_of(limits), known)])


def lasts_now(receiver, log):
    """The ranges of the numbers that can be last behind the log, none if it does not fit."""
    ranges = fits(receiver, log)
    taken = [number for number, told in log if told]
    if len(ranges) == 0 or len(taken) == 0:
        return ranges
    return ((taken[-1], taken[-1]),)


def sure_of(receiver, log, number):
    """Whether a number is taken behind the log from whatever number on it fits, None if from some of them alone."""
    can_be_taken = _fits_at_all(receiver, log + ((number, True),))
    can_be_left = _fits_at_all(receiver, log + ((number, False),))
    if not can_be_taken and not can_be_left:
        raise NoFit()
    return None if can_be_taken and can_be_left else can_be_taken


def fitting(receivers, log):
    """The ascending tuple of the indexes of the receivers that the log fits from some number on."""
    return tuple([at for at, receiver in enumerate(receivers) if _fits_at_all(receiver, log)])


def _fits_at_all(receiver, log):
    return len(fits(receiver, log)) > 0


def _is_pair(value):
    return is_tuple(value, 2, 2) and is_integer(value[0]) and isinstance(value[1], bool)


def _parts(receiver, log):
    """All numbers in ranges, the least first, with one course of the log from all numbers of each."""
    lows = {}
    turns = _turns(receiver)
    for number, taken in log:
        for turn in turns:
            lows[number + turn] = True
        # From here on last is this very number.
        if taken:
            break
    bounds = [None] + sorted([int(low) for low in lows])
    highs = [low - 1 for low in bounds[1:]] + [None]
    return list(zip(bounds, highs))


def _turns(receiver):
    """How far from a number those lasts are from which on upwards it lies in a range ahead, or no longer does."""
    turns = {}
    for state in receiver:
        for row in state:
            low, high = row[0]
            if low is not None:
                turns[1 - low] = True
            if high is not None:
                turns[-high] = True
    return list(turns)


def _one_of(limits):
    low, high = limits
    if low is not None:
        return low
    return 0 if high is None else high


def _fits_from(receiver, log, last, known):
    """Whether these are the answers from the beginning with this last; known keeps what step_from told."""
    rest = (0,)
    for number, taken in log:
        at = (rest, near_step(number - last))
        if at not in known:
            known[at] = step_from(receiver, rest, at[1])
        told, rest = known[at]
        if told != taken:
            return False
        if told:
            last = number
    return True


def _joined(ranges):
    """Ascending ranges with those joined between which there is no number."""
    joined = []
    for low, high in ranges:
        if len(joined) > 0 and joined[-1][1] == low - 1:
            low = joined.pop()[0]
        joined.append((low, high))
    return tuple(joined)
