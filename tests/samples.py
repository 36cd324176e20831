"""Values that several tests use, and a plain reading of the document to test against."""

import random

from lateposts import errors

R = (
    (((1, 2), None, "take", 0), ((3, 5), None, "keep", 1)),
    (((1, 2), None, "take", 0), ((3, 5), (1, 1), "take", 0), ((3, 5), None, "keep", 1)),
)
U = ((((1, None), None, "take", 0),),)

HUGE = 10 ** 6000


def same(one, other):
    """Whether two values are equal and of the same kinds at every depth."""
    if one.__class__ is not other.__class__:
        return False
    if isinstance(one, (tuple, list)):
        return len(one) == len(other) and all(map(same, one, other))
    return one == other


def image(value):
    """All that a value is made of, to tell whether a call has changed it."""
    if isinstance(value, (tuple, list)):
        return (value.__class__, [image(item) for item in value])
    if isinstance(value, dict):
        return (dict, [(image(key), image(item)) for key, item in value.items()])
    if value is None or isinstance(value, (int, str)):
        return (value.__class__, value)
    return (value.__class__, id(value), image(vars(value)))


def shown(value):
    """A short text of a value; Python turns no integer of so many digits into a string."""
    if isinstance(value, (tuple, list)):
        return f"{value.__class__.__name__}({', '.join(shown(item) for item in value[:9])})"
    if isinstance(value, int) and abs(value) > 10 ** 9:
        return f"an integer of {value.bit_length()} bits"
    return repr(value)[:60] if not isinstance(value, dict) else f"a dict of {len(value)}"


def nested(value, depth, kind=tuple):
    """A value inside so many tuples or lists."""
    for _ in range(depth):
        value = kind([value])
    return value


def odd_values():
    """Values of all the kinds that "any value" names, none of which is a tuple of a receiver or a stand."""
    return [
        None, True, False, 0, 1, -1, 7, HUGE, -HUGE,
        "", "take", "keep", "receiver", "a" * 2000,
        [], [None], [R], list(R), [list(state) for state in R], list(range(2000)),
        {}, {0: R}, {"take": 1}, {(1, 2): None},
        nested(0, 20, list), nested({}, 19, list),
        errors.PostError(), errors.BadReceiver(((), "receiver")), errors.BadNumber(0), errors.NoPlace(0),
        errors.BadRow(), errors.Halted(),
    ]


def row(ahead=(1, 2), after=None, deed="take", to_state=0):
    return (ahead, after, deed, to_state)


def random_range(rng, bounded=False):
    low, high = sorted((rng.randint(-6, 6), rng.randint(-6, 6)))
    if bounded:
        return (low, high)
    return (rng.choice((low, low, None)), rng.choice((high, high, None)))


def random_row(rng, states):
    deed = rng.choice(("take", "keep", "keep", "leave", "drop"))
    after = rng.choice((None, random_range(rng)))
    return (random_range(rng, deed == "keep"), after, deed, rng.randrange(states))


def random_receiver(rng):
    states = rng.randint(1, 4)
    return tuple(
        tuple(random_row(rng, states) for _ in range(rng.randint(0, 6))) for _ in range(states)
    )


def random_receivers(seed, many):
    rng = random.Random(seed)
    return [random_receiver(rng) for _ in range(many)]


def in_range(number, limits):
    low, high = limits
    if low is not None and number < low:
        return False
    return not (high is not None and number > high)


def plain_hear(receiver, stand, number):
    """What point 6 says of a number that is heard, word for word."""
    state, last, kept = stand
    for ahead, after, deed, to_state in receiver[state]:
        so = in_range(number - last, ahead)
        if after is not None:
            so = so and kept is not None and in_range(number - kept, after)
        if so:
            return {
                "take": (True, (to_state, number, None)),
                "keep": (False, (to_state, last, number)),
                "leave": (False, (to_state, last, kept)),
                "drop": (False, (to_state, last, None)),
            }[deed]
    return (False, stand)


def plain_rest(stand):
    state, last, kept = stand
    return (state,) if kept is None else (state, kept - last)


def plain_reached(receiver, reach=16):
    """The rests that come behind some row of numbers, found by hearing numbers.

    What is heard is shifted with last, so stands with 0 as last stand for all others.
    """
    found = {(0,)}
    waiting = [(0, 0, None)]
    while waiting:
        stand = waiting.pop()
        for number in range(-reach, reach + 1):
            rest = plain_rest(plain_hear(receiver, stand, number)[1])
            if rest not in found:
                found.add(rest)
                waiting.append((rest[0], 0, rest[1] if len(rest) == 2 else None))
    return tuple(sorted(found))
