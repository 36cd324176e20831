"""What several tests of inboxes check, and deeds by chance, done on an inbox and on a plain one beside it."""

import unittest

from lateposts.errors import BadNumber, Busy
from lateposts.inboxes import HaltedInbox, Inbox, LoggedHaltedInbox, LoggedInbox
from lateposts.rules import Rules
from tests.plain_inbox import PlainInbox, is_error
from tests.samples import HUGE, random_numbers, same

KINDS = (Inbox, HaltedInbox, LoggedInbox, LoggedHaltedInbox)
HALTED = (HaltedInbox, LoggedHaltedInbox)
LOGGED = (LoggedInbox, LoggedHaltedInbox)
NO_NUMBERS = [True, False, None, "1", "", (), (1,), [1], {}, {1: 1}]


class Boom(Exception):
    """What a function passed to an inbox may raise."""


def made(kind, receiver, last=0, limit=3):
    """An inbox of this class and a plain one."""
    if kind in HALTED:
        return kind(Rules(receiver), last, limit), PlainInbox(receiver, last, limit, kind in LOGGED)
    return kind(Rules(receiver), last), PlainInbox(receiver, last, None, kind in LOGGED)


def all_of(inbox):
    """All that can be seen of an inbox."""
    told = [inbox.__class__, inbox.rules, inbox.last, inbox.stand, inbox.taken, inbox.version, tuple(inbox), len(inbox)]
    told.append(tuple(step for step in range(-14, 15) if inbox.last + step in inbox))
    if isinstance(inbox, HaltedInbox):
        told += [inbox.wrong, inbox.limit]
    if isinstance(inbox, LoggedInbox):
        told.append(inbox.log)
    return told


def undone(inbox):
    """All that can be seen behind each undo; the inbox itself stays as it is."""
    inbox = inbox.copy()
    told = []
    while inbox.version:
        inbox.undo()
        told.append(all_of(inbox)[:11])
    return told


class InboxTest(unittest.TestCase):
    def check_state(self, inbox, plain):
        stand, taken, wrong = plain.course()
        self.assertTrue(same(inbox.stand, stand))
        self.assertTrue(same(inbox.last, stand[1]))
        self.assertTrue(same(inbox.taken, taken))
        self.assertTrue(same(tuple(inbox), taken))
        self.assertTrue(same(inbox.version, len(plain.deeds)))
        self.assertTrue(same(len(inbox), len(taken)))
        self.assertEqual(inbox.rules.receiver, plain.receiver)
        for step in range(-8, 9):
            self.assertIs(stand[1] + step in inbox, plain.would(stand[1] + step))
        if plain.limit is not None:
            self.assertTrue(same((inbox.wrong, inbox.limit), (wrong, plain.limit)))
        if plain.log is not None:
            self.assertTrue(same(inbox.log, plain.log))
        if abs(stand[1]) < HUGE // 10:
            self.assertEqual(str(inbox), f"last {stand[1]}, {len(taken)} taken, {len(plain.deeds)} deeds")

    def check_call(self, expected, function, *arguments, **keywords):
        """That a call returns what is expected, or raises it with the very value, and changes nothing then."""
        if not is_error(expected):
            got = function(*arguments, **keywords)
            self.assertTrue(same(got, expected), (function, got, expected))
            return
        inbox = getattr(function, "__self__", function)
        before = all_of(inbox)
        with self.assertRaises(expected[0]) as caught:
            function(*arguments, **keywords)
        self.assertIs(caught.exception.__class__, expected[0])
        if expected[0] is BadNumber:
            self.assertIs(caught.exception.value, expected[1])
        self.assertEqual(all_of(inbox), before)

    def check_busy(self, inbox):
        """That no deed can be done, whatever is passed, and all else can be asked."""
        before = all_of(inbox)
        for function, values in ((inbox, [1] + NO_NUMBERS), (inbox.restart, [1] + NO_NUMBERS),
                                 (inbox.hear_all, [(), [1], (None,), None, (1,) * 21])):
            for value in values:
                with self.assertRaises(Busy):
                    function(value)
        with self.assertRaises(Busy):
            inbox.undo()
        with self.assertRaises(Busy):
            inbox.hear_all((1,), on_take=self.fail)
        self.assertEqual(inbox.trial(all_of), before)
        self.assertEqual(all_of(inbox), before)

    def act(self, rng, inbox, plain, depth=0):
        """Do something by chance on both."""
        numbers = random_numbers(rng, rng.choice((0, 1, 2, 3, 5, 20)), 6, inbox.last)
        number = rng.choice(numbers + (inbox.last + rng.randint(1, 3), inbox.last + 1))
        if rng.random() < 0.04:
            number = rng.choice(NO_NUMBERS)
        kind = rng.randrange(20)
        if kind < 7:
            self.check_call(plain.hear(number), inbox, number)
        elif kind < 8:
            self.check_call(plain.restart(number), inbox.restart, number)
        elif kind < 11:
            self.check_call(plain.undo(), inbox.undo)
        elif kind < 13:
            self.check_call(plain.hear_all(numbers), inbox.hear_all, rng.choice((list, tuple))(numbers))
        elif kind < 14:
            value = rng.choice((None, "12", {1: 2}, (1,) * 21, [1] * 25, (1, None, True), [2, 3, "4"], inbox))
            self.check_call(plain.hear_all(value), inbox.hear_all, value)
        elif kind < 17:
            self.act_watched(rng, inbox, plain, numbers)
        elif kind < 19 and depth < 4:
            self.act_trial(rng, inbox, plain, depth)
        else:
            self.act_copy(rng, inbox, plain, depth)
        self.check_state(inbox, plain)

    def act_watched(self, rng, inbox, plain, numbers):
        """hear_all with a function that looks at the inbox, and now and then raises."""
        told, heard = plain.row(numbers)
        seen = [now for taken, now in heard if taken]
        stop = rng.randrange(len(seen)) if seen and rng.random() < 0.4 else None
        calls = []

        def watch(box):
            self.assertIs(box, inbox)
            self.check_state(box, seen[len(calls)])
            self.check_busy(box)
            copied = box.copy()
            self.check_state(copied, seen[len(calls)])
            copied.undo()
            calls.append(copied.version)
            if len(calls) - 1 == stop:
                raise Boom()
            return "nothing"

        if stop is None:
            self.check_call(plain.hear_all(numbers), inbox.hear_all, numbers, on_take=watch)
        else:
            before = all_of(inbox)
            with self.assertRaises(Boom):
                inbox.hear_all(numbers, on_take=watch)
            self.assertEqual(all_of(inbox), before)
        self.assertEqual(len(calls), len(seen) if stop is None else stop + 1)

    def act_trial(self, rng, inbox, plain, depth):
        deeds, log, before, earlier = plain.deeds, plain.log, all_of(inbox), undone(inbox)
        fails = rng.random() < 0.4
        answer = object()

        def attempt(box):
            self.assertIs(box, inbox)
            for _ in range(rng.randint(0, 6)):
                self.act(rng, box, plain, depth + 1)
            if fails:
                raise Boom()
            return answer

        if fails:
            with self.assertRaises(Boom):
                inbox.trial(attempt)
        else:
            self.assertIs(inbox.trial(attempt), answer)
        plain.deeds, plain.log = deeds, log
        self.assertEqual(all_of(inbox), before)
        self.assertEqual(undone(inbox), earlier)

    def act_copy(self, rng, inbox, plain, depth):
        """A copy is as its inbox, and what is done with it afterwards does not change the other."""
        before = all_of(inbox)
        copied = inbox.copy()
        self.assertIsNot(copied, inbox)
        self.assertIs(copied.rules, inbox.rules)
        self.assertEqual(all_of(copied), before)
        self.assertTrue(copied == inbox)
        other = plain.like(plain.deeds)
        if depth < 4:
            for _ in range(3):
                self.act(rng, copied, other, depth + 2)
        self.assertEqual(all_of(inbox), before)
