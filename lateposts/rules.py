"""Rules: receivers as objects."""

from lateposts.errors import BadReceiver, BadStep, NoPlace
from lateposts.forms import form_of, run_at
from lateposts.hearing import answers
from lateposts.kinds import is_index, is_integer
from lateposts.pairs import below
from lateposts.receivers import receiver_error
from lateposts.rests import step_from
from lateposts.spare import lean, mirrored
from lateposts.windows import paired, window


class Rules:
    """A receiver as an object, with its form; it never changes."""

    def __init__(self, value):
        error = receiver_error(value)
        if error is not None:
            raise BadReceiver(error)
        self._receiver = value
        self._form = form_of(value)

    @classmethod
    def window(cls, size):
        """The rules that take the numbers that are at most so many ahead."""
        return cls(window(size))

    @classmethod
    def paired(cls, size, wide, times):
        """The rules that take the numbers behind those of the window, up to wide, as the last of so many in a row."""
        return cls(paired(size, wide, times))

    @staticmethod
    def is_receiver(value):
        """Whether any value is a receiver."""
        return receiver_error(value) is None

    @property
    def receiver(self):
        """The receiver."""
        return self._receiver

    @property
    def form(self):
        """The form of the receiver."""
        return self._form

    def __call__(self, numbers, last):
        """The answers to numbers, heard from the beginning with this last on."""
        return answers(self._receiver, numbers, last=last)

    def __contains__(self, value):
        """Whether a value is an integer that is taken at the beginning with 0 as last."""
        if not is_integer(value):
            return False
        taken, _ = step_from(self._receiver, (0,), value)
        return taken

    def __len__(self):
        """The number of places of the form."""
        return len(self._form)

    def __getitem__(self, at):
        """What is told of a step at a place of the form: whether it is taken, and the place behind it."""
        place, step = at
        if not is_index(place, len(self._form)):
            raise NoPlace(place)
        if not is_integer(step):
            raise BadStep(step)
        return run_at(self._form[place], step)

    def __iter__(self):
        raise TypeError("rules are not iterated over")

    def __neg__(self):
        """The rules that answer to the numbers -n as these to the numbers n."""
        return Rules(mirrored(self._receiver))

    def __abs__(self):
        """The rules without their spare rows."""
        return Rules(lean(self._receiver))

    def __eq__(self, other):
        """Whether a value is rules that answer alike: those have the same form, and no others have."""
        return isinstance(other, Rules) and self._form == other._form

    def __le__(self, other):
        if not isinstance(other, Rules):
            return NotImplemented
        return below(self._receiver, other._receiver)

    def __lt__(self, other):
        if not isinstance(other, Rules):
            return NotImplemented
        return self._form != other._form and below(self._receiver, other._receiver)

    def __ge__(self, other):
        if not isinstance(other, Rules):
            return NotImplemented
        return below(other._receiver, self._receiver)

    def __gt__(self, other):
        if not isinstance(other, Rules):
            return NotImplemented
        return self._form != other._form and below(other._receiver, self._receiver)

    def __bool__(self):
        """Whether some number is taken in some row of numbers."""
        # Each place of a form is led to, so each of its runs is met in some row.
        return any([run[1] for place in self._form for run in place])

    def __str__(self):
        return f"{len(self._receiver)} states, {_rows_in(self._receiver)} rows, {len(self._form)} places"


def _rows_in(receiver):
    return sum([len(state) for state in receiver])
