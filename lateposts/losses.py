"""Lost numbers: how many are heard, behind some that are lost, until one is taken again."""

from lateposts.errors import BadCount
from lateposts.hearing import numbers_of, rises, stand_after
from lateposts.kinds import is_integer, is_numbers, is_tuple
from lateposts.rests import FAR_STEP, links_of, near_step, reached, reached_tables, rest_of, steps_to


def waits(receiver, lost):
    """The greatest wait behind rising rows that are empty or end with a taken number, None if one is endless."""
    if not is_integer(lost) or lost < 0:
        raise BadCount(lost)
    found = _waits_by_lost(receiver)
    return found[near_step(lost + 1) - 1]


def longest_wait(receiver):
    """The greatest wait behind all rising rows and with any number of lost ones, None if one is endless."""
    tables = reached_tables(receiver)
    known = _waits_of(tables)
    return _greatest([known[start] for _, start in _starts(links_of(tables, True))])


def stuck(receiver):
    """None if no wait is endless, otherwise a rising row and a number of lost ones behind which one is."""
    tables = reached_tables(receiver)
    known = _waits_of(tables)
    links = links_of(tables, True)
    for place, start in _starts(links):
        if known[start] is None:
            _, floor = place
            _, step = start
            return (numbers_of(steps_to(links, links[place]), True), step - floor - 1)
    return None


def stuck_holds(receiver, value):
    """Whether any value is a rising row and a number of lost ones behind which no number is ever taken."""
    if not is_tuple(value, 2, 2) or not is_numbers(value[0]) or not is_integer(value[1]):
        return False
    numbers, lost = value
    if lost < 0 or not rises(numbers):
        return False
    stand = stand_after(receiver, numbers)
    heard = numbers[-1] if len(numbers) > 0 else 0
    step = near_step(heard + lost + 1 - stand[1])
    return _waits_of(reached_tables(receiver))[(rest_of(stand), step)] is None


def most_lost(receiver, patience):
    """The most that may be lost, and any fewer, with no wait above the patience: None if not even 0, "any" if all."""
    if not is_integer(patience) or patience < 1:
        raise BadCount(patience)
    for lost, wait in enumerate(_waits_by_lost(receiver)):
        if wait is None or wait > patience:
            return lost - 1 if lost > 0 else None
    return "any"


def closed(receiver):
    """The ascending tuple of the rests that are reached and from which no number is ever taken."""
    tables = reached_tables(receiver)
    taking = {rest: True for rest in tables if any([taken for taken, _ in tables[rest]])}
    many = 0
    while len(taking) > many:
        many = len(taking)
        for rest in tables:
            if rest not in taking and any([behind in taking for _, behind in tables[rest]]):
                taking[rest] = True
    return tuple([rest for rest in reached(receiver) if rest not in taking])


def _waits_by_lost(receiver):
    """What waits tells for 0 to 12 lost ones; more of them are as 12."""
    tables = reached_tables(receiver)
    known = _waits_of(tables)
    # The floor is 0 where last is the number heard before, and there alone.
    rests = [rest for rest, floor in links_of(tables, True) if floor == 0]
    return [_greatest([known[(rest, lost + 1)] for rest in rests]) for lost in range(FAR_STEP)]


def _starts(links):
    """For each place all (rest, step) that the first number behind it, with some lost ones, may find and have."""
    return [(place, (place[0], step)) for place in links for step in range(place[1] + 1, FAR_STEP + 1)]


def _waits_of(tables):
    """The wait from each rest on if the first number has each step from 1 on, None if it is endless."""
    known = {(rest, FAR_STEP): _far_wait(tables, rest) for rest in tables}
    for step in range(FAR_STEP - 1, 0, -1):
        for rest in tables:
            taken, behind = tables[rest][step + FAR_STEP]
            further = 0 if taken else known[(behind, step + 1)]
            known[(rest, step)] = None if further is None else further + 1
    return known


def _far_wait(tables, rest):
    """The wait from a rest on where all numbers are far ahead; a longer one would go through a rest twice."""
    for wait in range(1, len(tables) + 1):
        taken, rest = tables[rest][-1]
        if taken:
            return wait
    return None


def _greatest(found):
    """The greatest of these waits, None if one of them is endless."""
    most = 0
    for wait in found:
        if wait is None:
            return None
        if wait > most:
            most = wait
    return most
