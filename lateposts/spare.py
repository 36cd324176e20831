"""Rows of a receiver that can go, and receivers turned around."""

from lateposts.forms import least_tables
from lateposts.rests import FAR_STEP, counting_row, reached, rests_of_states, table_of


def never_counts(receiver):
    """The ascending tuple of the rows that are never the first one that is so."""
    counting = {}
    for rest in reached(receiver):
        for step in range(-FAR_STEP, FAR_STEP + 1):
            counting[(rest[0], counting_row(receiver, rest, step))] = True
    return tuple([told for told in _all_rows(receiver) if told not in counting])


def spare_rows(receiver):
    """The ascending tuple of the rows without which the receiver answers alike."""
    places = least_tables(receiver)
    tables = _tables_of(receiver)
    return tuple([told for told in _all_rows(receiver) if _is_spare(receiver, told, tables, places)])


def without_row(receiver, state, row):
    """The receiver without one of its rows."""
    rows = receiver[state]
    return receiver[:state] + (rows[:row] + rows[row + 1:],) + receiver[state + 1:]


def lean(receiver):
    """The receiver without its last spare row, and so on until no row is spare."""
    # All that it becomes answers alike, so the places stay.
    places = least_tables(receiver)
    told = _last_spare(receiver, places)
    while told is not None:
        receiver = without_row(receiver, told[0], told[1])
        told = _last_spare(receiver, places)
    return receiver


def mirrored(receiver):
    """The receiver that answers to the numbers -n as this one to the numbers n."""
    return tuple([tuple([_mirrored_row(row) for row in state]) for state in receiver])


def _all_rows(receiver):
    """The ascending list of all rows, each told by its indexes."""
    return [(state, row) for state, rows in enumerate(receiver) for row in range(len(rows))]


def _tables_of(receiver):
    return {rest: table_of(receiver, rest) for rest in rests_of_states(len(receiver))}


def _last_spare(receiver, places):
    tables = _tables_of(receiver)
    for told in _all_rows(receiver)[::-1]:
        if _is_spare(receiver, told, tables, places):
            return told
    return None


def _is_spare(receiver, told, tables, places):
    """Whether the receiver answers as the places also without a row.

    tables are its own with the row; without it they still tell of all other states. places are those of its form,
    so each rest that is reached has to answer as one of them, and as this one alone.
    """
    state, row = told
    shorter = without_row(receiver, state, row)
    found = {(0,): 0}
    waiting = [(0,)]
    while waiting:
        rest = waiting.pop()
        table = table_of(shorter, rest) if rest[0] == state else tables[rest]
        expected = places[found[rest]]
        for (taken, behind), (place_taken, place) in zip(table, expected):
            if behind not in found:
                found[behind] = place
                waiting.append(behind)
            if taken != place_taken or found[behind] != place:
                return False
    return True


def _mirrored_row(row):
    ahead, after, deed, to_state = row
    if after is not None:
        after = _mirrored_range(after)
    return (_mirrored_range(ahead), after, deed, to_state)


def _mirrored_range(limits):
    low, high = limits
    return (_mirrored_bound(high), _mirrored_bound(low))


def _mirrored_bound(bound):
    return None if bound is None else -bound
