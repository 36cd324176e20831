"""Values that several tests use, and a plain reading of the document to test against."""

import inspect
import random

from lateposts import errors

R = (
    (((1, 2), None, "take", 0), ((3, 5), None, "keep", 1)),
    (((1, 2), None, "take", 0), ((3, 5), (1, 1), "take", 0), ((3, 5), None, "keep", 1)),
)
U = ((((1, None), None, "take", 0),),)

HUGE = 10 ** 6000


def same(one, other):
    """Whether two values are equal and of the same kinds at every depth."""
    if one.__class__ is not other.__class__:
        return False
    if isinstance(one, (tuple, list)):
        return len(one) == len(other) and all(map(same, one, other))
    return one == other


def image(value):
    """All that a value is made of, to tell whether a call has changed it."""
    if isinstance(value, (tuple, list)):
        return (value.__class__, [image(item) for item in value])
    if isinstance(value, dict):
        return (dict, [(image(key), image(item)) for key, item in value.items()])
    if value is None or isinstance(value, (int, str)):
        return (value.__class__, value)
    if inspect.isclass(value) or inspect.isroutine(value):
        return (value.__class__, id(value))
    return (value.__class__, id(value), image(vars(value)))


def shown(value):
    """A short text of a value; Python turns no integer of so many digits into a string."""
    if isinstance(value, (tuple, list)):
        return f"{value.__class__.__name__}({', '.join(shown(item) for item in value[:9])})"
    if isinstance(value, int) and abs(value) > 10 ** 9:
        return f"an integer of {value.bit_length()} bits"
    return repr(value)[:60] if not isinstance(value, dict) else f"a dict of {len(value)}"


def nested(value, depth, kind=tuple):
    """A value inside so many tuples or lists."""
    for _ in range(depth):
        value = kind([value])
    return value


def odd_values():
    """Values of all the kinds that "any value" names, none of which is a tuple of a receiver or a stand."""
    return [
        None, True, False, 0, 1, -1, 7, HUGE, -HUGE,
        "", "take", "keep", "receiver", "a" * 2000,
        [], [None], [R], list(R), [list(state) for state in R], list(range(2000)),
        {}, {0: R}, {"take": 1}, {(1, 2): None},
        nested(0, 20, list), nested({}, 19, list),
        errors.PostError(), errors.BadReceiver(((), "receiver")), errors.BadNumber(0), errors.NoPlace(0),
        errors.BadRow(), errors.Halted(),
    ]


def row(ahead=(1, 2), after=None, deed="take", to_state=0):
    return (ahead, after, deed, to_state)


def random_range(rng, bounded=False):
    low, high = sorted((rng.randint(-6, 6), rng.randint(-6, 6)))
    if bounded:
        return (low, high)
    return (rng.choice((low, low, None)), rng.choice((high, high, None)))


def random_row(rng, states):
    deed = rng.choice(("take", "keep", "keep", "leave", "drop"))
    after = rng.choice((None, random_range(rng)))
    return (random_range(rng, deed == "keep"), after, deed, rng.randrange(states))


def random_receiver(rng):
    states = rng.randint(1, 4)
    return tuple(
        tuple(random_row(rng, states) for _ in range(rng.randint(0, 6))) for _ in range(states)
    )


def random_receivers(seed, many):
    rng = random.Random(seed)
    return [random_receiver(rng) for _ in range(many)]


def in_range(number, limits):
    low, high = limits
    if low is not None and number < low:
        return False
    return not (high is not None and number > high)


def plain_hear(receiver, stand, number):
    """What point 6 says of a number that is heard, word for word."""
    state, last, kept = stand
    for ahead, after, deed, to_state in receiver[state]:
        so = in_range(number - last, ahead)
        if after is not None:
            so = so and kept is not None and in_range(number - kept, after)
        if so:
            return {
                "take": (True, (to_state, number, None)),
                "keep": (False, (to_state, last, number)),
                "leave": (False, (to_state, last, kept)),
                "drop": (False, (to_state, last, None)),
            }[deed]
    return (False, stand)


def plain_rest(stand):
    state, last, kept = stand
    return (state,) if kept is None else (state, kept - last)


def plain_reached(receiver, reach=16):
    """The rests that come behind some row of numbers, found by hearing numbers.

    What is heard is shifted with last, so stands with 0 as last stand for all others.
    """
    found = {(0,)}
    waiting = [(0, 0, None)]
    while waiting:
        stand = waiting.pop()
        for number in range(-reach, reach + 1):
            rest = plain_rest(plain_hear(receiver, stand, number)[1])
            if rest not in found:
                found.add(rest)
                waiting.append((rest[0], 0, rest[1] if len(rest) == 2 else None))
    return tuple(sorted(found))


def random_numbers(rng, many, spread=9, last=0):
    """So many numbers, some of them told again, about as far from one another as bounds are."""
    numbers = []
    number = last
    for _ in range(many):
        if numbers and rng.random() < 0.2:
            numbers.append(rng.choice(numbers[-3:]))
        else:
            number += rng.randint(-spread // 2, spread)
            numbers.append(number)
    return tuple(numbers)


def with_rows(receiver, state, rows):
    return receiver[:state] + (tuple(rows),) + receiver[state + 1:]


def reshaped(rng, receiver):
    """A receiver that answers alike, told by other rows or states."""
    shapes = [swapped_states, row_twice, row_in_two, more_states, state_twice]
    for _ in range(4):
        receiver = rng.choice(shapes)(rng, receiver)
    return receiver


def renumbered(receiver, numbers):
    """The receiver with state k at the index numbers[k]."""
    states = [None] * len(receiver)
    for at, state in enumerate(receiver):
        states[numbers[at]] = tuple(entry[:3] + (numbers[entry[3]],) for entry in state)
    return tuple(states)


def swapped_states(rng, receiver):
    others = list(range(1, len(receiver)))
    rng.shuffle(others)
    return renumbered(receiver, [0] + others)


def row_twice(rng, receiver):
    state = rng.randrange(len(receiver))
    rows = receiver[state]
    if not 0 < len(rows) < 6:
        return receiver
    at = rng.randrange(len(rows))
    again = rng.randint(at + 1, len(rows))
    return with_rows(receiver, state, rows[:again] + (rows[at],) + rows[again:])


def row_in_two(rng, receiver):
    state = rng.randrange(len(receiver))
    rows = receiver[state]
    wide = [at for at, entry in enumerate(rows) if None not in entry[0] and entry[0][0] < entry[0][1]]
    if not wide or len(rows) == 6:
        return receiver
    at = rng.choice(wide)
    low, high = rows[at][0]
    middle = rng.randint(low, high - 1)
    parts = (((low, middle),) + rows[at][1:], ((middle + 1, high),) + rows[at][1:])
    return with_rows(receiver, state, rows[:at] + parts + rows[at + 1:])


def more_states(rng, receiver):
    if len(receiver) == 4:
        return receiver
    return receiver + (tuple(random_row(rng, len(receiver) + 1) for _ in range(rng.randint(0, 6))),)


def state_twice(rng, receiver):
    """A state is told a second time, and some rows lead to the second one."""
    if len(receiver) == 4:
        return receiver
    state = rng.randrange(len(receiver))
    receiver = receiver + (receiver[state],)
    many = len(receiver)
    return tuple(
        tuple(entry[:3] + (many - 1,) if entry[3] == state and rng.random() < 0.5 else entry for entry in rows)
        for rows in receiver
    )


def near(rng, receiver):
    """A receiver that is unlike in one row at most."""
    state = rng.randrange(len(receiver))
    rows = receiver[state]
    if not rows or (len(rows) < 6 and rng.random() < 0.2):
        return with_rows(receiver, state, rows[:5] + (random_row(rng, len(receiver)),))
    at = rng.randrange(len(rows))
    if rng.random() < 0.2:
        return with_rows(receiver, state, rows[:at] + rows[at + 1:])
    ahead, after, deed, to_state = rows[at]
    low, high = ahead
    if rng.random() < 0.3 and low is not None and high != low:
        ahead = (low + 1, high)
    elif rng.random() < 0.4 and high is not None and high < 6:
        ahead = (low, high + 1)
    elif rng.random() < 0.5:
        to_state = rng.randrange(len(receiver))
    else:
        deed = rng.choice(("take", "leave", "drop"))
    return with_rows(receiver, state, rows[:at] + ((ahead, after, deed, to_state),) + rows[at + 1:])


def full_receiver(rng):
    """A receiver of four states with six rows each."""
    return tuple(tuple(random_row(rng, 4) for _ in range(6)) for _ in range(4))


def many_rests():
    """A receiver whose 56 rests are all reached, no two of them alike."""
    return tuple(
        (
            ((None, None), (state + 1, state + 1), "take", 0),
            ((None, None), (6, 6), "leave", (state + 1) % 4),
            ((None, None), (5, 5), "drop", state),
            ((-6, 6), None, "keep", state),
        )
        for state in range(4)
    )


def random_place(rng, many):
    """The runs of a place with a next below many, no two beside one another alike."""
    highs = sorted(rng.sample(range(-13, 13), rng.choice((0, 0, 1, 2, 3, 5)))) + [None]
    runs = []
    for high in highs:
        choices = [(taken, to) for taken in (True, False) for to in range(many)]
        if runs:
            choices.remove(runs[-1][1:])
        runs.append((high,) + rng.choice(choices))
    return tuple(runs)


def random_places(rng, many):
    return tuple(random_place(rng, many) for _ in range(many))


def counting_places(many):
    """The least places that take each one of so many greater numbers, the last of them."""
    places = [((0, False, 0), (None, False, at + 1)) for at in range(many - 1)]
    return tuple(places) + (((None, True, 0),),)
