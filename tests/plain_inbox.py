"""A plain reading of points 20 to 22: an inbox that goes through all deeds in effect again whenever it is asked."""

from lateposts import errors
from tests.samples import plain_hear, plain_rest


def number(value):
    return value.__class__ is int


class PlainInbox:
    """limit is None where the class counts none, log None where it has none."""

    def __init__(self, receiver, last, limit=None, logged=False):
        self.receiver = receiver
        self.first = last
        self.limit = limit
        self.deeds = ()
        self.log = () if logged else None

    def like(self, deeds):
        """A second one with these deeds in effect."""
        other = PlainInbox(self.receiver, self.first, self.limit)
        other.deeds = deeds
        other.log = self.log
        return other

    def course(self):
        """The stand, what was taken, and how many in a row were not, behind all deeds in effect."""
        stand, taken, wrong = (0, self.first, None), (), 0
        for word, value in self.deeds:
            if word == "restart":
                stand, wrong = (0, value, None), 0
                continue
            told, stand = plain_hear(self.receiver, stand, value)
            taken += (value,) if told else ()
            wrong = 0 if told else wrong + 1
        return stand, taken, wrong

    def halted(self):
        return self.limit is not None and self.course()[2] == self.limit

    def would(self, value):
        return number(value) and not self.halted() and plain_hear(self.receiver, self.course()[0], value)[0]

    def note(self, row):
        if self.log is not None:
            self.log += (row,)

    def hear(self, value):
        if not number(value):
            return errors.BadNumber, value
        if self.halted():
            return errors.Halted, None
        if len(self.deeds) == 60:
            return errors.TooManyDeeds, None
        told = self.would(value)
        self.deeds += (("hear", value),)
        self.note(("hear", value, told))
        return told

    def restart(self, value):
        if not number(value):
            return errors.BadNumber, value
        if len(self.deeds) == 60:
            return errors.TooManyDeeds, None
        self.deeds += (("restart", value),)
        self.note(("restart", value))
        return len(self.deeds)

    def undo(self):
        if not self.deeds:
            return errors.NothingToUndo, None
        self.deeds = self.deeds[:-1]
        self.note(("undo", len(self.deeds)))
        return len(self.deeds)

    def row(self, value):
        """What hear_all tells, and how the inbox is behind each number that is heard: the answer and one like it."""
        if value.__class__ not in (list, tuple) or len(value) > 20:
            return (errors.BadRow, None), []
        for item in value:
            if not number(item):
                return (errors.BadNumber, item), []
        if value and self.halted():
            return (errors.Halted, None), []
        if len(self.deeds) + len(value) > 60:
            return (errors.TooManyDeeds, None), []
        heard = []
        now = self
        for item in value:
            if now.halted():
                return (errors.Halted, None), heard
            told = now.would(item)
            now = now.like(now.deeds + (("hear", item),))
            heard.append((told, now))
        return tuple(told for told, _ in heard), heard

    def hear_all(self, value):
        told, heard = self.row(value)
        if not is_error(told):
            if heard:
                self.deeds = heard[-1][1].deeds
            self.note(("row", told))
        return told

    def same_as(self, other):
        """Whether the two are equal."""
        (_, last, _), (_, other_last, _) = stand, other_stand = self.course()[0], other.course()[0]
        if last != other_last:
            return False
        rests = [(self.receiver, plain_rest(stand)), (other.receiver, plain_rest(other_stand))]
        return plain_alike_from(*rests)


def is_error(told):
    return told.__class__ is tuple and len(told) == 2 and isinstance(told[0], type)


def plain_alike_from(one, other):
    """Whether two pairs of a receiver and a rest answer alike to all rows of numbers."""
    seen = {(one, other)}
    waiting = [(one, other)]
    while waiting:
        (receiver, rest), (other_receiver, other_rest) = waiting.pop()
        for step in range(-16, 17):
            stand = (rest[0], 0, rest[1] if len(rest) == 2 else None)
            other_stand = (other_rest[0], 0, other_rest[1] if len(other_rest) == 2 else None)
            taken, behind = plain_hear(receiver, stand, step)
            taken_too, other_behind = plain_hear(other_receiver, other_stand, step)
            if taken != taken_too:
                return False
            pair = ((receiver, plain_rest(behind)), (other_receiver, plain_rest(other_behind)))
            if pair not in seen:
                seen.add(pair)
                waiting.append(pair)
    return True
