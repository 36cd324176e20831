"""Two receivers: whether and where they answer unlike."""

from lateposts.hearing import answers, numbers_of, rises
from lateposts.kinds import is_numbers, is_tuple
from lateposts.rests import FAR_STEP, floor_behind, is_rest, rests_of_states, steps_to, table_of

START = ((0,), (0,))


def alike(one, other, *, rising=False):
    """Whether two receivers give the same answers."""
    _, end = _first_unlike(one, other, START, rising, True)
    return end is None


def parting(one, other, *, rising=False):
    """None if two receivers are alike, otherwise a shortest row of numbers to whose last one they answer unlike."""
    links, end = _first_unlike(one, other, START, rising, True)
    if end is None:
        return None
    return numbers_of(steps_to(links, end), rising)


def parting_holds(one, other, value, *, rising=False):
    """Whether any value is a row of numbers to whose last one two receivers answer unlike, and not before."""
    if not is_numbers(value) or len(value) == 0 or (rising and not rises(value)):
        return False
    told = answers(one, value)
    told_by_other = answers(other, value)
    return told[:-1] == told_by_other[:-1] and told[-1] != told_by_other[-1]


def pairing_of(one, other):
    """The least pairing of two receivers, None if they are not alike."""
    links, end = _first_unlike(one, other, START, False, True)
    if end is not None:
        return None
    found = {(meeting[0], meeting[1]): True for meeting in links}
    rests = rests_of_states(len(other))
    pairs = [(rest, other_rest) for rest in rests_of_states(len(one)) for other_rest in rests]
    return tuple([pair for pair in pairs if pair in found])


def pairing_holds(one, other, value):
    """Whether any value is a pairing of two receivers."""
    if not isinstance(value, tuple) or not all([_is_pair(one, other, pair) for pair in value]):
        return False
    if not all([value[at] < value[at + 1] for at in range(len(value) - 1)]):
        return False
    pairs = {pair: True for pair in value}
    return START in pairs and _is_closed(one, other, pairs)


def below(one, other, *, rising=False):
    """Whether the other receiver takes the number wherever the answers are unlike at first."""
    _, end = _first_unlike(one, other, START, rising, False)
    return end is None


def alike_from(one, rest, other, other_rest):
    """Whether two receivers give the same answers to all rows of numbers, each from a rest of its own on."""
    _, end = _first_unlike(one, other, (rest, other_rest), False, True)
    return end is None


def parting_steps(one, rest, other, other_rest):
    """The steps of a shortest row to whose last number two receivers answer unlike from these rests on.

    Each one stands with whether the one receiver takes it. There must be such a row.
    """
    links, end = _first_unlike(one, other, (rest, other_rest), False, True)
    return steps_to(links, end)


def _first_unlike(one, other, rests, rising, either):
    """Search rows of numbers, shorter ones first, for one that two receivers answer alike but for its last number.

    They begin with these rests. Returns (links, end). A meeting is (rest of the one, rest of the other, floor): the
    next number is to have a step greater than the floor. links tells for each meeting that was found the link by which
    it was, None for the first one; a link is (meeting ahead, step, taken). end is the link to the first unlike answer,
    None if there is none. If not either, unlike answers count only where the one takes the number.
    """
    start = rests + (floor_behind(rising, True, 0),)
    links = {start: None}
    meetings = [start]
    at = 0
    tables = {}
    other_tables = {}
    while at < len(meetings):
        meeting = meetings[at]
        at = at + 1
        rest, other_rest, floor = meeting
        if rest not in tables:
            tables[rest] = table_of(one, rest)
        if other_rest not in other_tables:
            other_tables[other_rest] = table_of(other, other_rest)
        for step in range(floor + 1, FAR_STEP + 1):
            taken, behind = tables[rest][step + FAR_STEP]
            other_taken, other_behind = other_tables[other_rest][step + FAR_STEP]
            together = (behind, other_behind, floor_behind(rising, taken, step))
            if taken != other_taken:
                if either or taken:
                    return (links, (meeting, step, taken))
            elif together not in links:
                links[together] = (meeting, step, taken)
                meetings.append(together)
    return (links, None)


def _is_pair(one, other, value):
    return is_tuple(value, 2, 2) and is_rest(one, value[0]) and is_rest(other, value[1])


def _is_closed(one, other, pairs):
    """Whether from all pairs each step is answered alike and leads to a pair again."""
    tables = {rest: table_of(one, rest) for rest in rests_of_states(len(one))}
    other_tables = {rest: table_of(other, rest) for rest in rests_of_states(len(other))}
    for rest, other_rest in pairs:
        for (taken, behind), (other_taken, other_behind) in zip(tables[rest], other_tables[other_rest]):
            if taken != other_taken or (behind, other_behind) not in pairs:
                return False
    return True
