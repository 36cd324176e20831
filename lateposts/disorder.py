"""Late and doubled numbers: whether only greater ones are taken, and whether doubled ones never matter."""

from lateposts.forms import alike_rests
from lateposts.hearing import answers, numbers_of, stand_after
from lateposts.kinds import is_index, is_numbers, is_tuple
from lateposts.pairs import parting_steps
from lateposts.rests import FAR_STEP, links_of, reached_tables, steps_to


def only_rises(receiver):
    """Whether every number that is taken is greater than last."""
    return falling_row(receiver) is None


def falling_row(receiver):
    """None if only greater numbers are taken, otherwise a shortest row at whose end one is taken that is not."""
    tables = reached_tables(receiver)
    links = links_of(tables, False)
    for place in links:
        for step in range(-FAR_STEP, 1):
            taken, _ = tables[place[0]][step + FAR_STEP]
            if taken:
                return numbers_of(steps_to(links, (place, step, True)), False)
    return None


def falling_holds(receiver, value):
    """Whether any value is a row whose last number is taken and not greater than last."""
    if not is_numbers(value) or len(value) == 0:
        return False
    _, last, _ = stand_after(receiver, value[:-1])
    return value[-1] <= last and answers(receiver, value)[-1]


def bears_doubles(receiver):
    """Whether a number that is heard twice is never taken the second time, and all other answers stay."""
    return doubled_row(receiver) is None


def doubled_row(receiver):
    """None if doubled numbers never matter, otherwise a row and the index of one in it that does."""
    tables = reached_tables(receiver)
    links = links_of(tables, False)
    classes = alike_rests(tables)
    for place in links:
        for step in range(-FAR_STEP, FAR_STEP + 1):
            taken, behind = tables[place[0]][step + FAR_STEP]
            # Taken, the number is last itself when it is heard again.
            again, behind_again = tables[behind][FAR_STEP if taken else step + FAR_STEP]
            if again or classes[behind] != classes[behind_again]:
                steps = steps_to(links, (place, step, taken))
                further = [] if again else parting_steps(receiver, behind, receiver, behind_again)
                return (numbers_of(steps + further, False), len(steps) - 1)
    return None


def doubled_holds(receiver, value):
    """Whether any value is a row and the index of a number in it that matters when it is heard twice."""
    if not is_tuple(value, 2, 2) or not is_numbers(value[0]) or not is_index(value[1], len(value[0])):
        return False
    numbers, at = value
    once = answers(receiver, numbers)
    twice = answers(receiver, numbers[:at + 1] + numbers[at:])
    return twice[at + 1] or twice[:at + 1] + twice[at + 2:] != once
