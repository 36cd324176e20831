"""Texts: strings that stand for receivers, logs and ranges."""

from lateposts.bounds import MAX_LOG
from lateposts.errors import BadReceiver, BadText
from lateposts.receivers import DEEDS, receiver_error

# How many digits a bound or the index of a state may have, and how many a number of a log.
MOST_ROW_DIGITS = 2
MOST_LOG_DIGITS = 40


def receiver_text(receiver):
    """The string that stands for a receiver."""
    return " / ".join([_state_text(state) for state in receiver])


def log_text(log):
    """The string that stands for a log."""
    return " ".join([f"{number}+" if taken else f"{number}-" for number, taken in log])


def ranges_text(ranges):
    """The string that stands for ranges of numbers."""
    if len(ranges) == 0:
        return "-"
    return ", ".join([_range_text(limits) for limits in ranges])


def parse_receiver(value):
    """The receiver that a string stands for."""
    if not isinstance(value, str):
        raise BadText(None)
    states = []
    for at, text in enumerate(value.split(" / ")):
        state = _state_in(text)
        if state is None:
            raise BadText(at)
        states.append(state)
    receiver = tuple(states)
    error = receiver_error(receiver)
    if error is not None:
        raise BadReceiver(error)
    return receiver


def parse_log(value):
    """The log that a string stands for."""
    if not isinstance(value, str):
        raise BadText(None)
    if value == "":
        return ()
    pairs = []
    for at, text in enumerate(value.split(" ")):
        number = number_in(text[:-1], MOST_LOG_DIGITS)
        if number is None or text[-1] not in ("+", "-"):
            raise BadText(at)
        pairs.append((number, text[-1] == "+"))
    if len(pairs) > MAX_LOG:
        raise BadText(MAX_LOG)
    return tuple(pairs)


def number_in(text, most_digits):
    """The number that a string stands for, None if it is not written as one with at most so many digits."""
    digits = text[1:] if text.startswith("-") else text
    if not digits.isdigit() or not digits.isascii() or len(digits) > most_digits:
        return None
    if digits.startswith("0") and text != "0":
        return None
    return int(text)


def _state_text(state):
    if len(state) == 0:
        return "-"
    return "; ".join([_row_text(row) for row in state])


def _row_text(row):
    ahead, after, deed, to_state = row
    if after is None:
        return f"{_range_text(ahead)} {deed} {to_state}"
    return f"{_range_text(ahead)} after {_range_text(after)} {deed} {to_state}"


def _range_text(limits):
    low, high = limits
    return f"{_bound_text(low)}..{_bound_text(high)}"


def _bound_text(bound):
    return "" if bound is None else str(bound)


def _state_in(text):
    """The state that a string is written as, perhaps with too many rows, None if it is not."""
    if text == "-":
        return ()
    rows = [_row_in(part) for part in text.split("; ")]
    return None if None in rows else tuple(rows)


def _row_in(text):
    """The row that a string is written as, perhaps with bounds that no row has, None if it is not."""
    pieces = text.split(" ")
    after = None
    if len(pieces) == 5 and pieces[1] == "after":
        after = _range_in(pieces[2])
        if after is None:
            return None
        pieces = pieces[:1] + pieces[3:]
    if len(pieces) != 3:
        return None
    ahead = _range_in(pieces[0])
    to_state = number_in(pieces[2], MOST_ROW_DIGITS)
    if ahead is None or pieces[1] not in DEEDS or to_state is None or to_state < 0:
        return None
    return (ahead, after, pieces[1], to_state)


def _range_in(text):
    """The range that a string is written as, perhaps with bounds that no range has, None if it is not."""
    low, dots, high = text.partition("..")
    if dots == "" or not _is_bound(low) or not _is_bound(high):
        return None
    # Where no bound is written none is read.
    return (number_in(low, MOST_ROW_DIGITS), number_in(high, MOST_ROW_DIGITS))


def _is_bound(text):
    return text == "" or number_in(text, MOST_ROW_DIGITS) is not None
