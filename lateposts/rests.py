"""Rests: all of a stand that the further answers of a receiver hang on."""

from lateposts.bounds import MAX_BOUND
from lateposts.kinds import is_index, is_integer, is_tuple
from lateposts.receivers import lies_in

# What is kept is at most 6 away from last, and a bound behind it 6 more: so each step
# from 13 on is answered as 13, and each one from -13 down as -13.
FAR_STEP = 13


def rest_of(stand):
    """The rest of a stand."""
    state, last, kept = stand
    if kept is None:
        return (state,)
    return (state, kept - last)


def is_rest(receiver, value):
    """Whether any value is a rest of the receiver, reached or not."""
    if not is_tuple(value, 1, 2) or not is_index(value[0], len(receiver)):
        return False
    return len(value) == 1 or (is_integer(value[1]) and abs(value[1]) <= MAX_BOUND)


def step_from(receiver, rest, step):
    """Whether a number with this step is taken, and the rest behind it."""
    at = counting_row(receiver, rest, step)
    if at is None:
        return (False, rest)
    return _deed_done(receiver[rest[0]][at], rest, step)


def counting_row(receiver, rest, step):
    """The index of the first row that is so for a number with this step, None if no row is."""
    for at, row in enumerate(receiver[rest[0]]):
        if lies_in(step, row[0]) and _comes_after(rest, step, row[1]):
            return at
    return None


def table_of(receiver, rest):
    """The list of what step_from tells of a rest, for all steps that are told apart, from -13 to 13."""
    return [step_from(receiver, rest, step) for step in range(-FAR_STEP, FAR_STEP + 1)]


def reached(receiver):
    """The ascending tuple of the rests that come behind some row of numbers."""
    found = reached_tables(receiver)
    return tuple([rest for rest in rests_of_states(len(receiver)) if rest in found])


def reached_tables(receiver):
    """The tables of the rests that come behind some row of numbers, by rest, the one of (0,) first."""
    found = {}
    waiting = [(0,)]
    while waiting:
        rest = waiting.pop()
        if rest not in found:
            found[rest] = table_of(receiver, rest)
            waiting.extend([behind for _, behind in found[rest]])
    return found


def links_of(tables, rising):
    """How the rests of these tables come behind rows of numbers, all or rising ones, each by as short a row as can be.

    A place is (rest, floor): the next number is to have a step greater than the floor. A link tells how a place was
    found: (place ahead, step, taken), None for the one behind the empty row. The links stand by their places, those
    behind shorter rows first.
    """
    start = ((0,), floor_behind(rising, True, 0))
    links = {start: None}
    places = [start]
    at = 0
    while at < len(places):
        place = places[at]
        at = at + 1
        rest, floor = place
        for step in range(floor + 1, FAR_STEP + 1):
            taken, behind = tables[rest][step + FAR_STEP]
            found = (behind, floor_behind(rising, taken, step))
            if found not in links:
                links[found] = (place, step, taken)
                places.append(found)
    return links


def floor_behind(rising, taken, step):
    """The step that the next number is to be greater than, as it is counted from last then."""
    if not rising:
        return -FAR_STEP - 1
    if taken:
        return 0
    # Beyond it there are always greater numbers, and they are all answered alike.
    return step if step < FAR_STEP else FAR_STEP - 1


def steps_to(links, end):
    """The steps of the links up to the end, each with whether the number is taken."""
    steps = []
    link = end
    while link is not None:
        ahead, step, taken = link
        steps.append((step, taken))
        link = links[ahead]
    return steps[::-1]


def near_step(step):
    """The step from -13 to 13 that is answered as this one."""
    if step > FAR_STEP:
        return FAR_STEP
    return step if step > -FAR_STEP else -FAR_STEP


def rests_of_states(many):
    """The ascending list of all rests of a receiver with so many states, reached or not."""
    rests = []
    for state in range(many):
        rests.append((state,))
        for gap in range(-MAX_BOUND, MAX_BOUND + 1):
            rests.append((state, gap))
    return rests


def _comes_after(rest, step, after):
    if after is None:
        return True
    return len(rest) == 2 and lies_in(step - rest[1], after)


def _deed_done(row, rest, step):
    deed = row[2]
    to_state = row[3]
    if deed == "take":
        return (True, (to_state,))
    if deed == "keep":
        return (False, (to_state, step))
    if deed == "leave":
        return (False, (to_state,) + rest[1:])
    return (False, (to_state,))
