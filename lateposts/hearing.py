"""How a receiver hears numbers, one behind another."""

from lateposts.rests import rest_of, step_from


def hear(receiver, stand, number):
    """Whether a number is taken at a stand, and the stand behind it."""
    last = stand[1]
    taken, rest = step_from(receiver, rest_of(stand), number - last)
    if taken:
        last = number
    return (taken, _stand_at(rest, last))


def answers(receiver, numbers, *, last=0):
    """The tuple of the answers to numbers, heard from the beginning on."""
    stand = (0, last, None)
    told = []
    for number in numbers:
        taken, stand = hear(receiver, stand, number)
        told.append(taken)
    return tuple(told)


def stand_after(receiver, numbers, *, last=0):
    """The stand behind numbers, heard from the beginning on."""
    stand = (0, last, None)
    for number in numbers:
        _, stand = hear(receiver, stand, number)
    return stand


def numbers_of(steps, rising):
    """The numbers that have these steps, each told with whether it is taken, heard from 0 on."""
    numbers = []
    last = 0
    for step, taken in steps:
        number = last + step
        # The greatest step stands for all beyond it, so a later number may be as far ahead as it must.
        if rising and numbers and number <= numbers[-1]:
            number = numbers[-1] + 1
        numbers.append(number)
        if taken:
            last = number
    return tuple(numbers)


def rises(numbers):
    """Whether numbers rise from above 0 on."""
    before = 0
    for number in numbers:
        if number <= before:
            return False
        before = number
    return True


def _stand_at(rest, last):
    if len(rest) == 1:
        return (rest[0], last, None)
    return (rest[0], last, last + rest[1])
