"""Plain readings of points 6 to 13, slow and in other ways than the program's, to test against."""

from tests.samples import plain_hear, plain_rest

# Steps from 13 on are all answered alike, and so are those from -13 down; a few more are tried.
REACH = 16


def stand_with(rest, last=0):
    """The stand with this rest and this last."""
    return (rest[0], last, last + rest[1] if len(rest) == 2 else None)


def all_rests(receiver):
    gaps = [()] + [(gap,) for gap in range(-6, 7)]
    return [(state,) + gap for state in range(len(receiver)) for gap in gaps]


def plain_step(receiver, rest, step):
    """What is answered to a step, and the rest behind it."""
    taken, stand = plain_hear(receiver, stand_with(rest), step)
    return (taken, plain_rest(stand))


class Steps:
    """What plain_step tells of a receiver, kept for the next time."""

    def __init__(self, receiver):
        self.receiver = receiver
        self.known = {}

    def __call__(self, rest, step):
        if (rest, step) not in self.known:
            self.known[rest, step] = plain_step(self.receiver, rest, step)
        return self.known[rest, step]


def plain_answers(receiver, numbers, last=0):
    return plain_course(receiver, numbers, last)[0]


def plain_course(receiver, numbers, last=0):
    """The answers and the stand behind them."""
    stand = (0, last, None)
    told = ()
    for number in numbers:
        taken, stand = plain_hear(receiver, stand, number)
        told += (taken,)
    return told, stand


def place_course(form, numbers, last=0):
    """The answers of a form and the place behind them, as point 8 says."""
    place = 0
    told = ()
    for number in numbers:
        low = None
        for high, taken, behind in form[place]:
            if (low is None or number - last > low) and (high is None or number - last <= high):
                break
            low = high
        told += (taken,)
        place = behind
        if taken:
            last = number
    return told, place


def unlikes(one, other, rising=False):
    """The lengths of the shortest rows to whose last number alone receivers answer unlike.

    A pair (length of those where the other takes it, of those where the one does), None where there is none. heard is
    how far the number heard before is ahead of last.
    """
    lengths = [None, None]
    step_of_one, step_of_other = Steps(one), Steps(other)
    now = {((0,), (0,), 0)}
    seen = set(now)
    length = 0
    while now:
        length += 1
        behind = set()
        for rest, other_rest, heard in now:
            for step in range(heard + 1 if rising else -REACH, max(REACH, heard + 1) + 1):
                taken, to = step_of_one(rest, step)
                other_taken, other_to = step_of_other(other_rest, step)
                if taken != other_taken:
                    if lengths[taken] is None:
                        lengths[taken] = length
                else:
                    behind.add((to, other_to, 0 if taken or not rising else min(step, REACH)))
        now = behind - seen
        seen |= now
    return tuple(lengths)


def plain_alike(one, other, rising=False):
    return unlikes(one, other, rising) == (None, None)


def plain_below(one, other, rising=False):
    return unlikes(one, other, rising)[1] is None


def plain_parting_length(one, other, rising=False):
    lengths = [length for length in unlikes(one, other, rising) if length is not None]
    return min(lengths) if lengths else None


def plain_pairs(one, other):
    """All pairs of rests that come behind the same row of numbers."""
    seen = {((0,), (0,))}
    waiting = list(seen)
    step_of_one, step_of_other = Steps(one), Steps(other)
    while waiting:
        rest, other_rest = waiting.pop()
        for step in range(-REACH, REACH + 1):
            pair = (step_of_one(rest, step)[1], step_of_other(other_rest, step)[1])
            if pair not in seen:
                seen.add(pair)
                waiting.append(pair)
    return tuple(sorted(seen))


def plain_pairing_holds(one, other, pairs):
    """Point 10, word for word, of a tuple of pairs of rests."""
    if list(pairs) != sorted(set(pairs)) or ((0,), (0,)) not in pairs:
        return False
    known = set(pairs)
    step_of_one, step_of_other = Steps(one), Steps(other)
    for rest, other_rest in pairs:
        for step in range(-REACH, REACH + 1):
            taken, to = step_of_one(rest, step)
            other_taken, other_to = step_of_other(other_rest, step)
            if taken != other_taken or (to, other_to) not in known:
                return False
    return True


def unlike_pairs(items, answer):
    """All pairs of items that answer unlike to some row of steps, found from their ends backward.

    answer(item, step) tells whether a step is taken and which item is behind it.
    """
    steps = range(-REACH, REACH + 1)
    told = {item: [answer(item, step) for step in steps] for item in items}
    found = {(a, b) for a in items for b in items
             if any(x[0] != y[0] for x, y in zip(told[a], told[b]))}
    while True:
        more = {(a, b) for a in items for b in items
                if (a, b) not in found and any((x[1], y[1]) in found for x, y in zip(told[a], told[b]))}
        if not more:
            return found
        found |= more


def unlike_rests(receiver, rests):
    """How many of the rests there are at most no two of which answer alike."""
    found = unlike_pairs(rests, lambda rest, step: plain_step(receiver, rest, step))
    chosen = []
    for rest in rests:
        if all((rest, other) in found for other in chosen):
            chosen.append(rest)
    return len(chosen)


def cover(place, step):
    """The answer and the place behind it of the first run that covers a step."""
    for high, taken, behind in place:
        if high is None or step <= high:
            return (taken, behind)
    raise AssertionError("no run covers the step")


def least_form(places):
    """Whether well-made places are least, as point 8 says."""
    for place in places:
        if any(a[1:] == b[1:] for a, b in zip(place, place[1:])):
            return False
    first = [0]
    for at, place in enumerate(places):
        if at >= len(first):
            return False
        first += [behind for n, (_, _, behind) in enumerate(place)
                  if behind not in first and behind not in [run[2] for run in place[:n]]]
    if first != list(range(len(places))):
        return False
    found = unlike_pairs(list(range(len(places))), lambda at, step: cover(places[at], step))
    return all((a, b) in found for a in range(len(places)) for b in range(a))


def cut(receiver, state, row):
    """The receiver without a row."""
    return tuple(tuple(rows[:row] + rows[row + 1:]) if at == state else rows for at, rows in enumerate(receiver))


def rows_told(receiver):
    return [(state, row) for state in range(len(receiver)) for row in range(len(receiver[state]))]


def plain_spare(receiver):
    return tuple(told for told in rows_told(receiver) if plain_alike(receiver, cut(receiver, *told)))


def plain_lean(receiver):
    spare = plain_spare(receiver)
    while spare:
        receiver = cut(receiver, *spare[-1])
        spare = plain_spare(receiver)
    return receiver


def plain_least(places):
    """The least places that answer as well-made ones from the first one on."""
    found = unlike_pairs(list(range(len(places))), lambda at, step: cover(places[at], step))
    stands_for = [min(b for b in range(len(places)) if (a, b) not in found) for a in range(len(places))]
    order = [0]
    least = []
    for at in order:
        runs = []
        for high, taken, behind in places[at]:
            if stands_for[behind] not in order:
                order.append(stands_for[behind])
            run = (high, taken, order.index(stands_for[behind]))
            if runs and runs[-1][1:] == run[1:]:
                runs.pop()
            runs.append(run)
        least.append(tuple(runs))
    return tuple(least)
