"""Point 21: HaltedInbox, and what LoggedHaltedInbox has of it."""

import random

from lateposts.errors import BadCount, BadNumber, BadRow, Halted, TooManyDeeds
from lateposts.inboxes import Inbox, LoggedHaltedInbox, LoggedInbox
from lateposts.rules import Rules
from tests.inbox_checks import HALTED, InboxTest, NO_NUMBERS, all_of, made, undone
from tests.samples import HUGE, R, U, nested, odd_values, row, same

ALWAYS = ((row((None, None)),),)
NEVER = ((),)


class LimitTest(InboxTest):
    def test_limits(self):
        for kind in HALTED:
            for limit in range(1, 10):
                inbox, plain = made(kind, NEVER, 5, limit)
                self.check_state(inbox, plain)
                self.assertTrue(same((inbox.limit, inbox.wrong), (limit, 0)))
                for at in range(limit):
                    self.check_call(plain.hear(at), inbox, at)
                    self.check_state(inbox, plain)
                self.assertEqual(inbox.wrong, limit)
                self.check_call((Halted, None), inbox, 7)
                self.check_call((Halted, None), inbox.hear_all, (7,))

    def test_wrong_limits(self):
        for kind in HALTED:
            for value in odd_values() + [0, 10, -1, HUGE, True, False, None, "3", (3,), nested(3, 20), Rules(R)]:
                if value.__class__ is int and 1 <= value <= 9:
                    continue
                with self.assertRaises(BadCount) as caught:
                    kind(Rules(R), 0, value)
                self.assertIs(caught.exception.value, value)
                for last in (None, True, "0", value):
                    if last.__class__ is not int:
                        with self.assertRaises(BadNumber) as caught:
                            kind(Rules(R), last, value)
                        self.assertIs(caught.exception.value, last)


class WrongTest(InboxTest):
    def test_numbers_not_taken_one_behind_another(self):
        for kind in HALTED:
            inbox, plain = made(kind, R, 0, 9)
            counts = []
            for number in (0, 0, 1, 9, 9, 9, 4, 5, 5, 30):
                self.check_call(plain.hear(number), inbox, number)
                counts.append(inbox.wrong)
            self.assertEqual(counts, [1, 2, 0, 1, 2, 3, 4, 0, 1, 2])

    def test_restarts_and_undo(self):
        for kind in HALTED:
            inbox, plain = made(kind, R, 0, 9)
            for number in (0, 0, 0):
                inbox(number)
                plain.hear(number)
            self.assertEqual(inbox.wrong, 3)
            self.check_call(plain.restart(7), inbox.restart, 7)
            self.assertEqual(inbox.wrong, 0)
            self.check_call(plain.hear(7), inbox, 7)
            self.assertEqual(inbox.wrong, 1)
            self.check_call(plain.hear(8), inbox, 8)
            for wrong in (1, 0, 3, 2, 1, 0):
                inbox.undo()
                plain.undo()
                self.assertEqual(inbox.wrong, wrong)
                self.check_state(inbox, plain)

    def test_rows_trials_and_copies(self):
        for kind in HALTED:
            inbox, _ = made(kind, R, 0, 9)
            inbox.hear_all((0, 0, 0))
            self.assertEqual(inbox.wrong, 3)
            self.assertEqual(inbox.trial(lambda box: (box(0), box.wrong, box(1), box.wrong)), (False, 4, True, 0))
            self.assertEqual(inbox.wrong, 3)
            copied = inbox.copy()
            self.assertEqual((copied.wrong, copied.limit), (3, 9))
            copied(0)
            self.assertEqual((copied.wrong, inbox.wrong), (4, 3))
            with self.assertRaises(ZeroDivisionError):
                inbox.hear_all((0, 1, 0), on_take=lambda box: 1 // box.wrong)
            self.assertEqual(inbox.wrong, 3)
            inbox.hear_all((), on_take=self.fail)
            self.assertEqual(inbox.wrong, 3)


class HaltsTest(InboxTest):
    def halted(self, kind, limit=2, receiver=R):
        inbox, plain = made(kind, receiver, 0, limit)
        for at in range(limit):
            inbox(-at)
            plain.hear(-at)
        return inbox, plain

    def test_examples(self):
        inbox = LoggedHaltedInbox(Rules(R), 0, 2)
        inbox.hear_all((4, 5, 6, 7, 7, 7))
        inbox.undo()
        self.check_call((Halted, None), inbox.hear_all, (1, 2, 8))

    def test_nothing_is_heard(self):
        for kind in HALTED:
            inbox, plain = self.halted(kind)
            self.check_call((Halted, None), inbox, 1)
            self.check_call((Halted, None), inbox.hear_all, (1,))
            self.check_call((Halted, None), inbox.hear_all, [1] * 20)
            self.check_call((), inbox.hear_all, ())
            self.check_call((), inbox.hear_all, [], on_take=self.fail)
            plain.note(("row", ()))
            plain.note(("row", ()))
            for value in [1, 2, HUGE, None, True, R] + odd_values():
                self.assertIs(value in inbox, False)
            self.check_state(inbox, plain)

    def test_the_order_of_errors(self):
        for kind in HALTED:
            inbox, _ = self.halted(kind)
            for value in NO_NUMBERS:
                self.check_call((BadNumber, value), inbox, value)
                self.check_call((BadNumber, value), inbox.hear_all, (1, value))
            self.check_call((BadRow, None), inbox.hear_all, (1,) * 21)
            self.check_call((BadRow, None), inbox.hear_all, None)

    def test_halted_with_60_deeds(self):
        for kind in HALTED:
            inbox, plain = made(kind, R, 0, 2)
            for number in range(1, 59):
                inbox(number)
            inbox.hear_all((58, 58))
            self.assertEqual((inbox.version, inbox.wrong), (60, 2))
            self.check_call((Halted, None), inbox, 1)
            self.check_call((Halted, None), inbox.hear_all, (1,))
            self.check_call((BadNumber, None), inbox.hear_all, (None,))
            self.check_call((), inbox.hear_all, ())
            self.check_call((TooManyDeeds, None), inbox.restart, 1)
            inbox.undo()
            self.check_call((TooManyDeeds, None), inbox.hear_all, (1, 1))
            self.check_call((TooManyDeeds, None), inbox.hear_all, (58, 58, 58))
            self.check_call((True,), inbox.hear_all, (59,))
            self.check_call((TooManyDeeds, None), inbox, 60)

    def test_too_many_deeds_come_ahead_of_a_halt_amid_a_row(self):
        for kind in HALTED:
            inbox, _ = made(kind, R, 0, 2)
            for number in range(1, 56):
                inbox(number)
            self.check_call((TooManyDeeds, None), inbox.hear_all, (0,) * 6, on_take=self.fail)
            self.check_call((TooManyDeeds, None), inbox.hear_all, (56,) + (0,) * 5, on_take=self.fail)
            self.check_call((Halted, None), inbox.hear_all, (0,) * 5)
            self.assertEqual(inbox.version, 55)

    def test_with_the_last_number_of_a_row(self):
        for kind in HALTED:
            for limit in range(1, 10):
                inbox, plain = made(kind, R, 0, limit)
                numbers = (1, 2) + (0,) * limit
                self.check_call(plain.hear_all(numbers), inbox.hear_all, numbers)
                self.check_state(inbox, plain)
                self.assertEqual(inbox.wrong, limit)
                self.check_call((Halted, None), inbox, 3)

    def test_amid_a_row(self):
        for kind in HALTED:
            for limit in range(1, 10):
                inbox, plain = made(kind, R, 0, limit)
                self.check_call(plain.hear(1), inbox, 1)
                earlier = undone(inbox)
                for further in ((3,), (0,), (3, 4)):
                    taken = []
                    numbers = (2,) + (0,) * limit + further
                    self.check_call((Halted, None), inbox.hear_all, numbers, on_take=lambda box: taken.append(box.last))
                    self.assertEqual(taken, [2])
                    self.check_state(inbox, plain)
                    self.assertEqual(undone(inbox), earlier)
                self.check_call(plain.hear(2), inbox, 2)

    def test_what_was_not_taken_before_a_row_counts(self):
        for kind in HALTED:
            inbox, plain = made(kind, R, 0, 3)
            inbox(0)
            plain.hear(0)
            self.check_call((Halted, None), inbox.hear_all, (0, 0, 1))
            self.check_call((False, False), inbox.hear_all, (0, 0))
            self.check_call((Halted, None), inbox.hear_all, (1,))

    def test_a_restart_opens_it(self):
        for kind in HALTED:
            inbox, plain = self.halted(kind)
            self.check_call(plain.restart(5), inbox.restart, 5)
            self.assertEqual((inbox.wrong, 6 in inbox), (0, True))
            self.check_call(plain.hear(6), inbox, 6)
            self.check_state(inbox, plain)
            inbox.undo()
            inbox.undo()
            plain.undo()
            plain.undo()
            self.check_state(inbox, plain)
            self.check_call((Halted, None), inbox, 1)

    def test_undo_opens_it(self):
        for kind in HALTED:
            inbox, plain = self.halted(kind)
            self.check_call(plain.undo(), inbox.undo)
            self.assertEqual((inbox.wrong, 1 in inbox), (1, True))
            self.check_call(plain.hear(1), inbox, 1)
            self.check_state(inbox, plain)

    def test_trials_put_back_what_was(self):
        for kind in HALTED:
            inbox, plain = self.halted(kind)
            self.assertEqual(inbox.trial(lambda box: (box.undo(), box(1), box(2))), (1, True, True))
            self.check_call((Halted, None), inbox, 1)
            with self.assertRaises(Halted):
                inbox.trial(lambda box: box(1))
            self.check_state(inbox, plain)
            opened, plain = made(kind, R, 0, 2)
            with self.assertRaises(Halted):
                opened.trial(lambda box: [box(0), box(0), box(1)])
            self.check_state(opened, plain)
            self.check_call(plain.hear(1), opened, 1)

    def test_copies_are_halted_too(self):
        for kind in HALTED:
            inbox, _ = self.halted(kind)
            copied = inbox.copy()
            self.check_call((Halted, None), copied, 1)
            copied.restart(0)
            self.assertIs(copied(1), True)
            self.check_call((Halted, None), inbox, 1)

    def test_equality(self):
        for kind in HALTED:
            inbox, _ = self.halted(kind)
            self.assertTrue(inbox == made(kind, R, 0, 9)[0])
            self.assertFalse(inbox == made(kind, R, 1, 2)[0])

    def test_within_on_take(self):
        for kind in HALTED:
            inbox, plain = made(kind, R, 0, 1)
            self.check_call(plain.row((1, 2, 0))[0], inbox.hear_all, (1, 2, 0), on_take=self.check_busy)
            plain.hear_all((1, 2, 0))
            self.check_state(inbox, plain)

    def test_rows_by_chance(self):
        rng = random.Random(211)
        halts = 0
        for kind in HALTED:
            for _ in range(120):
                inbox, plain = made(kind, rng.choice((R, U)), 0, rng.randint(1, 4))
                for _ in range(6):
                    numbers = tuple(inbox.last + rng.randint(-2, 3) for _ in range(rng.randint(0, 8)))
                    told = plain.hear_all(numbers)
                    halts += told == (Halted, None)
                    self.check_call(told, inbox.hear_all, numbers)
                    self.check_state(inbox, plain)
        self.assertGreater(halts, 100)

    def test_other_inboxes_never_halt(self):
        for kind in (Inbox, LoggedInbox):
            inbox, _ = made(kind, NEVER)
            for _ in range(3):
                self.assertEqual(inbox.hear_all((1,) * 20), (False,) * 20)
            self.check_call((TooManyDeeds, None), inbox, 1)

    def test_limit_and_wrong_can_only_be_read(self):
        for kind in HALTED:
            inbox, _ = self.halted(kind)
            before = all_of(inbox)
            for name in ("limit", "wrong"):
                with self.assertRaises(AttributeError):
                    setattr(inbox, name, 1)
            self.assertEqual(all_of(inbox), before)
