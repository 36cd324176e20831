"""Point 20: hear_all, and what may be done while a function that was passed to it is called."""

import random

from lateposts.errors import BadNumber, BadRow, Busy, TooManyDeeds
from lateposts.inboxes import Inbox
from lateposts.rules import Rules
from tests.inbox_checks import Boom, InboxTest, KINDS, LOGGED, NO_NUMBERS, all_of, made, undone
from tests.samples import HUGE, R, U, nested, odd_values, row, same

ALWAYS = ((row((None, None)),),)


class HearAllTest(InboxTest):
    def test_rows(self):
        for kind in KINDS:
            for numbers in ((), (1,), (1, 4, 5), (4, 5, 9, 10, 8, 9)):
                for form in (tuple, list):
                    inbox, plain = made(kind, R, 0, 9)
                    self.check_call(plain.hear_all(numbers), inbox.hear_all, form(numbers))
                    self.check_state(inbox, plain)

    def test_how_many_numbers(self):
        for kind in KINDS:
            for many in (0, 1, 19, 20):
                inbox, plain = made(kind, U, 0, 9)
                self.check_call((True,) * many, inbox.hear_all, list(range(1, many + 1)))
                self.assertEqual((inbox.version, inbox.last), (many, many))
            for many in (21, 22, 61, 2000):
                inbox, plain = made(kind, U)
                self.check_call((BadRow, None), inbox.hear_all, tuple(range(1, many + 1)))
                self.check_call((BadRow, None), inbox.hear_all, [None] * many)

    def test_no_rows(self):
        for kind in KINDS:
            inbox, plain = made(kind, ALWAYS)
            inbox.hear_all((1, 2))
            plain.hear_all((1, 2))
            values = odd_values() + ["12", {1: 2}, 7, None, True, inbox, inbox.rules, KeyError("x")]
            for value in values:
                if value.__class__ not in (tuple, list) or len(value) > 20:
                    self.check_call((BadRow, None), inbox.hear_all, value)
                elif value and value[0].__class__ is not int:
                    self.check_call((BadNumber, value[0]), inbox.hear_all, value)
            self.check_state(inbox, plain)

    def test_items_that_are_no_numbers(self):
        for kind in KINDS:
            inbox, _ = made(kind, ALWAYS)
            for value in NO_NUMBERS + [nested(1, 19), R]:
                for at in (0, 1, 19):
                    numbers = [1] * 20
                    numbers[at] = value
                    numbers[19] = value if at == 19 else "later"
                    self.check_call((BadNumber, value), inbox.hear_all, numbers)
                    self.check_call((BadNumber, value), inbox.hear_all, tuple(numbers))

    def test_at_most_60_deeds(self):
        for kind in KINDS:
            inbox, plain = made(kind, ALWAYS)
            for _ in range(2):
                inbox.hear_all((1,) * 20)
            self.check_call((True,) * 15, inbox.hear_all, (1,) * 15)
            before = all_of(inbox)
            self.check_call((TooManyDeeds, None), inbox.hear_all, (1,) * 6)
            self.check_call((TooManyDeeds, None), inbox.hear_all, (1,) * 20)
            self.check_call((BadNumber, "2"), inbox.hear_all, (1,) * 19 + ("2",))
            self.check_call((BadRow, None), inbox.hear_all, (1,) * 21)
            self.assertEqual(all_of(inbox), before)
            self.check_call((True,) * 5, inbox.hear_all, (1,) * 5)
            self.check_call((TooManyDeeds, None), inbox.hear_all, (1,))
            self.check_call((), inbox.hear_all, ())
            self.check_call((), inbox.hear_all, [])
            self.assertEqual(inbox.version, 60)

    def test_undo_takes_one_number_back(self):
        for kind in KINDS:
            inbox, _ = made(kind, ALWAYS)
            inbox.hear_all((5, 6, 7))
            self.assertEqual((inbox.undo(), inbox.taken, inbox.last), (2, (5, 6), 6))
            self.assertEqual((inbox.undo(), inbox.taken, inbox.last), (1, (5,), 5))

    def test_numbers_are_copied_when_the_call_starts(self):
        for kind in KINDS:
            inbox, _ = made(kind, ALWAYS)
            numbers = [5, 6, 7]

            def change(box):
                numbers.append("x")
                numbers[1] = 90
                del numbers[0]

            self.assertEqual(inbox.hear_all(numbers, on_take=change), (True, True, True))
            self.assertEqual(inbox.taken, (5, 6, 7))

    def test_numbers_of_any_size(self):
        inbox = Inbox(Rules(U), -HUGE)
        self.assertTrue(same(inbox.hear_all([-HUGE, 1 - HUGE, HUGE, 0, HUGE + 1]), (False, True, True, False, True)))
        self.assertEqual(inbox.stand, (0, HUGE + 1, None))


class OnTakeTest(InboxTest):
    def test_behind_each_number_that_is_taken(self):
        for kind in KINDS:
            inbox, _ = made(kind, R, 0, 9)
            inbox(1)
            seen = []
            told = inbox.hear_all((1, 2, 5, 6, 30, 7),
                                  on_take=lambda box: seen.append((box is inbox, box.stand, box.taken, box.version)))
            self.assertEqual(told, (False, True, False, True, False, True))
            self.assertEqual(seen, [(True, (0, 2, None), (1, 2), 3), (True, (0, 6, None), (1, 2, 6), 5),
                                    (True, (0, 7, None), (1, 2, 6, 7), 7)])

    def test_only_where_something_is_taken(self):
        for kind in KINDS:
            inbox, _ = made(kind, R, 0, 9)
            self.assertEqual(inbox.hear_all((), on_take=self.fail), ())
            self.assertEqual(inbox.hear_all((0, 9, 8, -1), on_take=self.fail), (False,) * 4)
            for value in ((1, 2, None), (1,) * 21, "12"):
                with self.assertRaises((BadNumber, BadRow)):
                    inbox.hear_all(value, on_take=self.fail)

    def test_without_a_function(self):
        for kind in KINDS:
            inbox, _ = made(kind, R)
            self.assertEqual(inbox.hear_all((1, 2), on_take=None), (True, True))

    def test_what_it_returns_plays_no_part(self):
        for value in (None, False, True, Boom, "stop"):
            inbox, _ = made(Inbox, ALWAYS)
            self.assertEqual(inbox.hear_all((1, 2), on_take=lambda box: value), (True, True))

    def test_the_inbox_is_busy(self):
        for kind in KINDS:
            inbox, plain = made(kind, ALWAYS)
            inbox.hear_all((3, 4), on_take=self.check_busy)
            plain.hear_all((3, 4))
            self.check_state(inbox, plain)
            self.check_call(plain.hear(5), inbox, 5)
            self.check_call(plain.undo(), inbox.undo)

    def test_busy_comes_ahead_of_anything_else(self):
        for kind in KINDS:
            inbox, _ = made(kind, ALWAYS, 0, 1)
            for _ in range(3):
                inbox.hear_all((1,) * 20, on_take=self.check_busy if inbox.version == 40 else None)
            self.assertEqual(inbox.version, 60)

    def test_in_is_told_while_it_is_called(self):
        for kind in KINDS:
            inbox, _ = made(kind, R)
            seen = []
            inbox.hear_all((1, 3), on_take=lambda box: seen.append((2 in box, 3 in box, 4 in box, True in box)))
            self.assertEqual(seen, [(True, True, False, False), (False, False, True, False)])

    def test_a_log_without_a_row_of_this_call(self):
        for kind in LOGGED:
            inbox, _ = made(kind, R)
            inbox(1)
            seen = []
            inbox.hear_all((2, 3), on_take=lambda box: seen.append((box.log, box.copy().log)))
            self.assertEqual(seen, [((("hear", 1, True),),) * 2] * 2)
            self.assertEqual(inbox.log, (("hear", 1, True), ("row", (True, True))))

    def test_an_exception_takes_all_back(self):
        class Odd(BaseException):
            pass

        for kind in KINDS:
            for error in (Boom, Odd, KeyboardInterrupt, StopIteration, GeneratorExit, BadRow, AttributeError):
                for at in range(3):
                    inbox, plain = made(kind, R, 0, 9)
                    inbox.hear_all((1, 9))
                    plain.hear_all((1, 9))
                    earlier = undone(inbox)
                    raised = error()
                    calls = []

                    def fails(box):
                        calls.append(box.last)
                        if len(calls) == at + 1:
                            raise raised

                    with self.assertRaises(error) as caught:
                        inbox.hear_all((2, 9, 3, 0, 4, 9), on_take=fails)
                    self.assertIs(caught.exception, raised)
                    self.assertEqual(calls, [2, 3, 4][:at + 1])
                    self.check_state(inbox, plain)
                    self.assertEqual(undone(inbox), earlier)
                    self.check_call(plain.hear(2), inbox, 2)

    def test_a_busy_error_that_is_not_caught(self):
        for kind in KINDS:
            inbox, plain = made(kind, ALWAYS)
            for function in (lambda box: box(5), lambda box: box.undo(), lambda box: box.restart(None),
                             lambda box: box.hear_all(())):
                self.check_call((Busy, None), inbox.hear_all, (1, 2), on_take=function)
            self.check_state(inbox, plain)

    def test_copies_made_in_it_are_not_busy(self):
        for kind in KINDS:
            inbox, _ = made(kind, R, 0, 9)
            copies = []

            def take(box):
                copied = box.copy()
                self.assertEqual(all_of(copied), all_of(box))
                copied(copied.last + 1)
                copied.hear_all((), on_take=self.fail)
                copied.undo()
                copied.undo()
                copies.append((copied.taken, copied.version))

            inbox.hear_all((1, 9, 2), on_take=take)
            self.assertEqual(copies, [((), 0), ((1,), 2)])
            self.assertEqual((inbox.taken, inbox.version), ((1, 2), 3))

    def test_other_inboxes_can_be_at_work_in_it(self):
        for kind in KINDS:
            inbox, _ = made(kind, R)
            other, _ = made(kind, ALWAYS)
            inbox.hear_all((1, 2), on_take=lambda box: other.hear_all((box.last, 7), on_take=lambda own: box.copy()(9)))
            self.assertEqual((inbox.taken, other.taken), ((1, 2), (1, 7, 2, 7)))

    def test_what_was_done_to_others_stays(self):
        for kind in KINDS:
            inbox, _ = made(kind, R)
            other, _ = made(kind, R)

            def fails(box):
                other(box.last)
                raise Boom()

            with self.assertRaises(Boom):
                inbox.hear_all((1, 2), on_take=fails)
            self.assertEqual((inbox.taken, other.taken), ((), (1,)))

    def test_trials_in_it(self):
        for kind in KINDS:
            inbox, _ = made(kind, R)
            seen = []

            def take(box):
                before = all_of(box)
                self.assertEqual(box.trial(all_of), before)
                box.trial(self.check_busy)
                with self.assertRaises(Busy):
                    box.trial(lambda own: own(5))
                with self.assertRaises(Boom):
                    box.trial(self.raise_boom)
                self.assertEqual(all_of(box), before)
                self.check_busy(box)
                seen.append(box.trial(lambda own: own.trial(lambda same_one: same_one.taken)))

            inbox.hear_all((1, 2), on_take=take)
            self.assertEqual(seen, [(1,), (1, 2)])
            self.assertIs(inbox(3), True)

    def raise_boom(self, box):
        raise Boom()

    def test_rows_by_chance(self):
        rng = random.Random(208)
        for kind in KINDS:
            for _ in range(60):
                inbox, plain = made(kind, rng.choice((R, U, ALWAYS)), 0, rng.randint(1, 9))
                for _ in range(4):
                    numbers = tuple(inbox.last + rng.randint(-1, 6) for _ in range(rng.choice((0, 1, 3, 6, 20))))
                    if rng.random() < 0.5:
                        self.act_watched(rng, inbox, plain, numbers)
                    else:
                        self.check_call(plain.hear_all(numbers), inbox.hear_all, numbers)
                    self.check_state(inbox, plain)
