"""Forms: the one least way to write what a receiver answers."""

from lateposts.bounds import MAX_PLACES
from lateposts.kinds import is_index, is_integer, is_tuple
from lateposts.rests import FAR_STEP, reached_tables

# Each step from -13 to 13 may have a run of its own.
MOST_RUNS = 2 * FAR_STEP + 1


def is_form(value):
    """Whether any value is a form."""
    if not is_tuple(value, 1, MAX_PLACES):
        return False
    if not all([_is_place(place, len(value)) for place in value]):
        return False
    return _are_numbered(value) and _are_unlike(value)


def form_of(receiver):
    """The form that answers as the receiver."""
    return tuple([_place_of(table) for table in least_tables(receiver)])


def form_answers(form, numbers, *, last=0):
    """The tuple of the answers of a form to numbers."""
    place = 0
    told = []
    for number in numbers:
        taken, place = run_at(form[place], number - last)
        told.append(taken)
        if taken:
            last = number
    return tuple(told)


def place_after(form, numbers, *, last=0):
    """The index of the place of a form behind numbers."""
    place = 0
    for number in numbers:
        taken, place = run_at(form[place], number - last)
        if taken:
            last = number
    return place


def run_at(place, step):
    """What the run that covers a step tells: whether it is taken, and the place behind it."""
    for high, taken, to_place in place[:-1]:
        if step <= high:
            return (taken, to_place)
    return place[-1][1:]


def least_tables(receiver):
    """The places of the receiver's form, each as a table: what run_at tells of all steps from -13 to 13."""
    tables = _by_number(reached_tables(receiver))
    return _as_led_to(tables, _alike_classes(tables))


def alike_rests(found):
    """A number for each rest of tables by rest; two have the same one exactly if they answer alike."""
    classes = _alike_classes(_by_number(found))
    return {rest: classes[at] for at, rest in enumerate(found)}


def _by_number(found):
    """The list of tables by rest, in which the rests are told by their indexes in it."""
    index = {rest: at for at, rest in enumerate(found)}
    return [[(taken, index[behind]) for taken, behind in found[rest]] for rest in found]


def _alike_classes(tables):
    """For each table the number of its class: two have the same one exactly if they answer alike."""
    classes = [0 for _ in tables]
    many = 1
    while True:
        signs = [tuple([(taken, classes[to]) for taken, to in table]) for table in tables]
        numbers = {}
        for sign in signs:
            numbers.setdefault(sign, len(numbers))
        # What one round parts all later ones part, too: a round that parts no more is the last.
        if len(numbers) == many:
            return classes
        classes = [numbers[sign] for sign in signs]
        many = len(numbers)


def _as_led_to(tables, classes):
    """One table of each class, in the order in which they are first led to from the first one on."""
    members = [0]
    places = {classes[0]: 0}
    at = 0
    while at < len(members):
        table = tables[members[at]]
        at = at + 1
        for _, behind in table:
            if classes[behind] not in places:
                places[classes[behind]] = len(members)
                members.append(behind)
    return [[(taken, places[classes[to]]) for taken, to in tables[member]] for member in members]


def _place_of(table):
    runs = [(at - FAR_STEP,) + table[at] for at in range(len(table) - 1) if table[at] != table[at + 1]]
    return tuple(runs + [(None,) + table[-1]])


def _is_place(value, many):
    if not is_tuple(value, 1, MOST_RUNS) or not all([_is_run(run, many) for run in value]):
        return False
    if value[-1][0] is not None or not _are_rising([run[0] for run in value[:-1]]):
        return False
    return all([value[at][1:] != value[at + 1][1:] for at in range(len(value) - 1)])


def _is_run(value, many):
    return is_tuple(value, 3, 3) and isinstance(value[1], bool) and is_index(value[2], many)


def _are_rising(highs):
    """Whether all of these are integers that highs may be, each greater than the one before it."""
    below = -FAR_STEP - 1
    for high in highs:
        if not is_integer(high) or not below < high < FAR_STEP:
            return False
        below = high
    return True


def _are_numbered(places):
    """Whether each place but the first is led to from an earlier one, in the order of their numbers."""
    led_to = 1
    for at, place in enumerate(places):
        if at >= led_to:
            return False
        for run in place:
            if run[2] > led_to:
                return False
            if run[2] == led_to:
                led_to = led_to + 1
    return True


def _are_unlike(places):
    """Whether no two places answer alike for all rows of numbers."""
    classes = _alike_classes([_table_of(place) for place in places])
    return len(set(classes)) == len(places)


def _table_of(place):
    return [run_at(place, step) for step in range(-FAR_STEP, FAR_STEP + 1)]
