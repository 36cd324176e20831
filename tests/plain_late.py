"""Plain readings of points 14 to 18, slow and in other ways than the program's, to test against."""

from tests.plain import REACH, Steps, plain_course, stand_with
from tests.samples import plain_hear, plain_reached

# Behind so many numbers that are not taken, each one more than the one before, none is ever taken:
# 13 of them lead to steps that are all alike, and a receiver has 56 rests.
ENDLESS = 13 + 56 + 1


def plain_falling_length(receiver):
    """The length of a shortest row whose last number is taken and not greater than last, None if there is none."""
    answer = Steps(receiver)
    seen = {(0,)}
    now = set(seen)
    length = 0
    while now:
        length += 1
        if any(answer(rest, step)[0] for rest in now for step in range(-REACH, 1)):
            return length
        behind = {answer(rest, step)[1] for rest in now for step in range(-REACH, REACH + 1)}
        now = behind - seen
        seen |= now
    return None


def plain_falling_holds(receiver, numbers):
    if not numbers:
        return False
    last = plain_course(receiver, numbers[:-1])[1][1]
    return plain_course(receiver, numbers)[0][-1] and numbers[-1] <= last


def plain_bears_doubles(receiver):
    """Whether from no rest behind a doubled number anything is answered unlike the rest behind it heard once."""
    answer = Steps(receiver)
    pairs = set()
    for rest in plain_reached(receiver):
        for step in range(-REACH, REACH + 1):
            taken, once = answer(rest, step)
            again, twice = answer(once, 0 if taken else step)
            if again:
                return False
            pairs.add((once, twice))
    waiting = list(pairs)
    while waiting:
        once, twice = waiting.pop()
        for step in range(-REACH, REACH + 1):
            (taken, one), (taken_too, other) = answer(once, step), answer(twice, step)
            if taken != taken_too:
                return False
            if (one, other) not in pairs:
                pairs.add((one, other))
                waiting.append((one, other))
    return True


def plain_doubled_holds(receiver, numbers, at):
    once = list(plain_course(receiver, numbers)[0])
    twice = list(plain_course(receiver, numbers[:at + 1] + (numbers[at],) + numbers[at + 1:])[0])
    return twice.pop(at + 1) or once != twice


def rising_places(receiver):
    """All (rest, heard) behind rising rows: heard is how far the number heard before is ahead of last, at most 16."""
    answer = Steps(receiver)
    seen = {((0,), 0)}
    waiting = list(seen)
    while waiting:
        rest, heard = waiting.pop()
        for step in range(heard + 1, max(REACH, heard + 1) + 1):
            taken, behind = answer(rest, step)
            place = (behind, 0 if taken else min(step, REACH))
            if place not in seen:
                seen.add(place)
                waiting.append(place)
    return seen


def plain_wait(receiver, stand, number):
    """How many of number, number + 1 and so on are heard until one is taken, None if none ever is."""
    for wait in range(1, ENDLESS + 1):
        taken, stand = plain_hear(receiver, stand, number)
        if taken:
            return wait
        number += 1
    return None


def greatest(found):
    found = list(found)
    return None if None in found else max(found)


def plain_waits(receiver, lost):
    ends = {rest for rest, heard in rising_places(receiver) if heard == 0}
    return greatest(plain_wait(receiver, stand_with(rest), lost + 1) for rest in ends)


def plain_longest(receiver):
    starts = {(rest, heard + lost + 1) for rest, heard in rising_places(receiver) for lost in range(REACH)}
    return greatest(plain_wait(receiver, stand_with(rest), step) for rest, step in starts)


def plain_stuck_holds(receiver, numbers, lost):
    stand = plain_course(receiver, numbers)[1]
    return plain_wait(receiver, stand, (numbers[-1] if numbers else 0) + lost + 1) is None


def plain_most(receiver, patience):
    """Behind 13 lost ones and more all steps are far ahead, so a few more stand for all."""
    lost = 0
    while lost < 16:
        wait = plain_waits(receiver, lost)
        if wait is None or wait > patience:
            return lost - 1 if lost else None
        lost += 1
    return "any"


def plain_closed(receiver):
    answer = Steps(receiver)
    steps = range(-REACH, REACH + 1)
    found = []
    for rest in plain_reached(receiver):
        seen = {rest}
        waiting = [rest]
        while waiting:
            at = waiting.pop()
            for behind in {answer(at, step)[1] for step in steps} - seen:
                seen.add(behind)
                waiting.append(behind)
        if not any(answer(at, step)[0] for at in seen for step in steps):
            found.append(rest)
    return tuple(found)


def plain_paired(size, wide, times):
    """Point 17, word for word."""
    states = []
    for state in range(times):
        rows = [((1, size), None, "take", 0)]
        if state == times - 1:
            rows.append(((size + 1, wide), (1, 1), "take", 0))
        elif state != 0:
            rows.append(((size + 1, wide), (1, 1), "keep", state + 1))
        rows.append(((size + 1, wide), None, "keep", 1))
        states.append(tuple(rows))
    return tuple(states)


def plain_fits_from(receiver, log, last):
    return plain_course(receiver, [number for number, _ in log], last)[0] == tuple(taken for _, taken in log)


def around(log):
    """All numbers that the numbers of a log are near, and one more on each side that stands for all others there."""
    numbers = [number for number, _ in log] or [0]
    near = {number + step for number in numbers for step in range(-15, 16)}
    return sorted(near)


def plain_lasts(receiver, log):
    """Those of the numbers around a log from which it fits."""
    return [last for last in around(log) if plain_fits_from(receiver, log, last)]


def within(number, ranges):
    return any((low is None or low <= number) and (high is None or number <= high) for low, high in ranges)


def wide_ranges(numbers, low, high):
    """Ascending numbers as the fewest ranges, those at low and high without a bound."""
    ranges = []
    for number in numbers:
        if ranges and ranges[-1][1] == number - 1:
            ranges[-1] = (ranges[-1][0], number)
        else:
            ranges.append((number, number))
    return tuple((None if a == low else a, None if b == high else b) for a, b in ranges)
