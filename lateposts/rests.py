"""Rests: all of a stand that the further answers of a receiver hang on."""

from lateposts.bounds import MAX_BOUND
from lateposts.receivers import lies_in

# What is kept is at most 6 away from last, and a bound behind it 6 more: so each step
# from 13 on is answered as 13, and each one from -13 down as -13.
FAR_STEP = 13


def rest_of(stand):
    """The rest of a stand."""
    state, last, kept = stand
    if kept is None:
        return (state,)
    return (state, kept - last)


def step_from(receiver, rest, step):
    """Whether a number with this step is taken, and the rest behind it."""
    for ahead, after, deed, to_state in receiver[rest[0]]:
        if lies_in(step, ahead) and _comes_after(rest, step, after):
            return _deed_done(deed, to_state, rest, step)
    return (False, rest)


def reached(receiver):
    """The ascending tuple of the rests that come behind some row of numbers."""
    found = {(0,): True}
    waiting = [(0,)]
    while waiting:
        rest = waiting.pop()
        for step in range(-FAR_STEP, FAR_STEP + 1):
            _, behind = step_from(receiver, rest, step)
            if behind not in found:
                found[behind] = True
                waiting.append(behind)
    return tuple([rest for rest in rests_of_states(len(receiver)) if rest in found])


def rests_of_states(many):
    """The ascending list of all rests of a receiver with so many states, reached or not."""
    rests = []
    for state in range(many):
        rests.append((state,))
        for gap in range(-MAX_BOUND, MAX_BOUND + 1):
            rests.append((state, gap))
    return rests


def _comes_after(rest, step, after):
    if after is None:
        return True
    return len(rest) == 2 and lies_in(step - rest[1], after)


def _deed_done(deed, to_state, rest, step):
    if deed == "take":
        return (True, (to_state,))
    if deed == "keep":
        return (False, (to_state, step))
    if deed == "leave":
        return (False, (to_state,) + rest[1:])
    return (False, (to_state,))
