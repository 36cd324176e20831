"""Desks: inboxes that are told what to do by strings."""

from lateposts.errors import BadCount, BadText, Busy, Halted, NothingToUndo, TooManyDeeds
from lateposts.logs import fits
from lateposts.losses import longest_wait, most_lost, waits
from lateposts.texts import number_in, parse_log, ranges_text

UNKNOWN = "unknown command"
MOST_DIGITS = 40
MOST_CALLS = 20


class Desk:
    """Does commands on an inbox."""

    def __init__(self, inbox):
        self._inbox = inbox
        self._history = ()

    @property
    def history(self):
        """The tuple of the last calls, each a pair of the line, None for what was no string, and the answer."""
        return self._history

    def say(self, value):
        """Do the command that a value is, if it is one, and tell the answer."""
        line = value if isinstance(value, str) else None
        answer = UNKNOWN if line is None else self._answer(line.split(" "))
        calls = self._history + ((line, answer),)
        self._history = calls[-MOST_CALLS:]
        return answer

    def _answer(self, pieces):
        try:
            return self._done(pieces)
        except BadCount:
            return "error BadCount"
        except BadText:
            return "error BadText"
        except Busy:
            return "error Busy"
        except Halted:
            return "error Halted"
        except NothingToUndo:
            return "error NothingToUndo"
        except TooManyDeeds:
            return "error TooManyDeeds"

    def _done(self, pieces):
        if "" in pieces:
            return UNKNOWN
        word = pieces[0]
        if len(pieces) == 1:
            return self._done_alone(word)
        if word == "fits":
            log = parse_log(" ".join(pieces[1:]))
            return ranges_text(fits(self._inbox.rules.receiver, log))
        number = number_in(pieces[1], MOST_DIGITS)
        if len(pieces) > 2 or number is None:
            return UNKNOWN
        return self._done_with(word, number)

    def _done_alone(self, word):
        """The answer to a command of one word."""
        if word == "undo":
            return f"version {self._inbox.undo()}"
        if word == "last":
            return str(self._inbox.last)
        if word == "taken":
            taken = self._inbox.taken
            return " ".join([str(number) for number in taken]) if len(taken) > 0 else "-"
        if word == "form":
            return str(len(self._inbox.rules))
        if word == "wait":
            return _count_text(longest_wait(self._inbox.rules.receiver), "never")
        return UNKNOWN

    def _done_with(self, word, number):
        """The answer to a command of a word and a number."""
        if word == "hear":
            return _truth_text(self._inbox(number))
        if word == "restart":
            self._inbox.restart(number)
            return f"restarted {number}"
        if word == "would":
            return _truth_text(number in self._inbox)
        if word == "wait":
            return _count_text(waits(self._inbox.rules.receiver, number), "never")
        if word == "most":
            return _count_text(most_lost(self._inbox.rules.receiver, number), "none")
        return UNKNOWN


def _truth_text(truth):
    return "yes" if truth else "no"


def _count_text(count, none):
    return none if count is None else str(count)
