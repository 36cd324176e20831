"""Inboxes: receivers at work, that hear numbers, are restarted, and take deeds back."""

from lateposts.bounds import MAX_DEEDS, MAX_ROW
from lateposts.errors import BadCount, BadNumber, BadRow, Busy, Halted, NothingToUndo, TooManyDeeds
from lateposts.hearing import hear
from lateposts.kinds import is_integer
from lateposts.pairs import alike_from
from lateposts.rests import rest_of

MAX_LIMIT = 9


class Moment:
    """How an inbox is at its beginning, with None as before, or behind a deed; it never changes."""

    def __init__(self, place, numbers, misses, before):
        self.place = place
        self.numbers = numbers
        self.misses = misses
        self.before = before
        self.deeds = 0 if before is None else before.deeds + 1


class Inbox:
    """A receiver at work."""

    def __init__(self, rules, last):
        _check_number(last)
        self._rules = rules
        self._now = Moment((0, last, None), (), 0, None)
        self._calling = False

    @property
    def rules(self):
        """The rules that the inbox goes by."""
        return self._rules

    @property
    def last(self):
        """The number that is last."""
        return self._now.place[1]

    @property
    def stand(self):
        """The stand of the receiver."""
        return self._now.place

    @property
    def taken(self):
        """The tuple of the numbers taken by the deeds in effect, the earliest first."""
        return self._now.numbers

    @property
    def version(self):
        """How many deeds are in effect."""
        return self._now.deeds

    def __call__(self, value):
        """Hear a number and tell whether it is taken."""
        self._check_free()
        _check_number(value)
        self._check_not_halted()
        self._check_room(1)
        taken = self._hear(value)
        self._note(("hear", value, taken))
        return taken

    def restart(self, value):
        """Stand at the beginning with a number and tell the version."""
        self._check_free()
        _check_number(value)
        self._check_room(1)
        self._now = Moment((0, value, None), self._now.numbers, 0, self._now)
        self._note(("restart", value))
        return self._now.deeds

    def hear_all(self, value, *, on_take=None):
        """Hear all numbers of a list or tuple, or none of them, and tell the answers.

        Behind each number that is taken on_take is called with the inbox, if it is given.
        """
        self._check_free()
        numbers = _numbers_of(value)
        if len(numbers) > 0:
            self._check_not_halted()
        self._check_room(len(numbers))
        behind = self._now
        try:
            answers = self._hear_each(numbers, on_take)
            behind = self._now
        finally:
            # Whatever went wrong in on_take, the numbers heard so far are taken back.
            self._now = behind
        self._note(("row", answers))
        return answers

    def undo(self):
        """Take back the last deed in effect and tell the version."""
        self._check_free()
        if self._now.before is None:
            raise NothingToUndo()
        self._now = self._now.before
        self._note(("undo", self._now.deeds))
        return self._now.deeds

    def trial(self, function):
        """Call a function with the inbox, tell what it returns, and put back all that it did to the inbox."""
        before = self._now
        try:
            return function(self)
        finally:
            self._now = before

    def copy(self):
        """An inbox of the same class that stands as this one and goes on by itself."""
        other = self._made_alike()
        other._now = self._now
        return other

    def __contains__(self, value):
        """Whether a value is an integer that would be taken now."""
        if not is_integer(value) or self._is_halted():
            return False
        taken, _ = hear(self._rules.receiver, self._now.place, value)
        return taken

    def __iter__(self):
        return iter(self._now.numbers)

    def __len__(self):
        return len(self._now.numbers)

    def __eq__(self, other):
        """Whether a value is an inbox with the same last that would answer alike from now on."""
        if not isinstance(other, Inbox) or self.last != other.last:
            return False
        return alike_from(self.rules.receiver, rest_of(self.stand), other.rules.receiver, rest_of(other.stand))

    def __str__(self):
        return f"last {self.last}, {len(self.taken)} taken, {self.version} deeds"

    def _made_alike(self):
        """An inbox of the same class with the same rules and all that its class keeps besides."""
        return Inbox(self._rules, self.last)

    def _hear(self, number):
        taken, place = hear(self._rules.receiver, self._now.place, number)
        if taken:
            self._now = Moment(place, self._now.numbers + (number,), 0, self._now)
        else:
            self._now = Moment(place, self._now.numbers, self._now.misses + 1, self._now)
        return taken

    def _hear_each(self, numbers, on_take):
        told = []
        for number in numbers:
            self._check_not_halted()
            taken = self._hear(number)
            told.append(taken)
            if taken and on_take is not None:
                self._call(on_take)
        return tuple(told)

    def _call(self, on_take):
        self._calling = True
        try:
            on_take(self)
        finally:
            self._calling = False

    def _is_halted(self):
        return False

    def _note(self, row):
        """Put down a row of the log, where the class has one."""

    def _check_free(self):
        if self._calling:
            raise Busy()

    def _check_not_halted(self):
        if self._is_halted():
            raise Halted()

    def _check_room(self, many):
        if self._now.deeds + many > MAX_DEEDS:
            raise TooManyDeeds()


class HaltedInbox(Inbox):
    """An inbox that halts when so many numbers have not been taken, one behind another."""

    def __init__(self, rules, last, limit):
        Inbox.__init__(self, rules, last)
        if not is_integer(limit) or not 1 <= limit <= MAX_LIMIT:
            raise BadCount(limit)
        self._limit = limit

    @property
    def wrong(self):
        """How many numbers have not been taken since the last one that was, a restart, or the beginning."""
        return self._now.misses

    @property
    def limit(self):
        """The number of those with which the inbox is halted."""
        return self._limit

    def _made_alike(self):
        return HaltedInbox(self._rules, self.last, self._limit)

    def _is_halted(self):
        return self._now.misses == self._limit


class LoggedInbox(Inbox):
    """An inbox with a log of all that was done and raised nothing."""

    def __init__(self, rules, last):
        Inbox.__init__(self, rules, last)
        self._log = ()

    @property
    def log(self):
        """The tuple of the rows of the log, the earliest first."""
        return self._log

    def trial(self, function):
        """Call a function with the inbox, tell what it returns, and put back all that it did to the inbox."""
        log = self._log
        try:
            return super().trial(function)
        finally:
            self._log = log

    def _made_alike(self):
        other = LoggedInbox(self._rules, self.last)
        other._log = self._log
        return other

    def _note(self, row):
        self._log = self._log + (row,)


class LoggedHaltedInbox(LoggedInbox, HaltedInbox):
    """An inbox that halts and has a log."""

    def __init__(self, rules, last, limit):
        HaltedInbox.__init__(self, rules, last, limit)
        self._log = ()

    def _made_alike(self):
        other = LoggedHaltedInbox(self._rules, self.last, self._limit)
        other._log = self._log
        return other


def _check_number(value):
    if not is_integer(value):
        raise BadNumber(value)


def _numbers_of(value):
    """The numbers of a row to be heard, as a tuple."""
    if not isinstance(value, (list, tuple)) or len(value) > MAX_ROW:
        raise BadRow()
    for number in value:
        _check_number(number)
    return tuple(value)
