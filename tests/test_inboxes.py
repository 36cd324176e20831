"""Points 20 and 2 (h): Inbox, and what all four classes of inboxes have of it; and the classes themselves."""

import inspect
import random

from lateposts import inboxes as module
from lateposts.errors import BadNumber, NothingToUndo, TooManyDeeds
from lateposts.hearing import answers, stand_after
from lateposts.inboxes import HaltedInbox, Inbox, LoggedHaltedInbox, LoggedInbox
from lateposts.rules import Rules
from lateposts.windows import paired, window
from tests.inbox_checks import Boom, InboxTest, KINDS, NO_NUMBERS, all_of, made, undone
from tests.plain_inbox import plain_alike_from
from tests.samples import (
    HUGE, R, U, full_receiver, many_rests, nested, odd_values, plain_rest, random_numbers, random_receivers, reshaped,
                           row,
    same,
)

NEVER = ((),)
ALWAYS = ((row((None, None)),),)


class ClassesTest(InboxTest):
    def test_bases(self):
        self.assertEqual(Inbox.__bases__, (object,))
        self.assertEqual(HaltedInbox.__bases__, (Inbox,))
        self.assertEqual(LoggedInbox.__bases__, (Inbox,))
        self.assertEqual(LoggedHaltedInbox.__bases__, (LoggedInbox, HaltedInbox))
        self.assertFalse(issubclass(LoggedInbox, HaltedInbox) or issubclass(HaltedInbox, LoggedInbox))

    def test_interface(self):
        signatures = {Inbox: "(rules, last)", HaltedInbox: "(rules, last, limit)", LoggedInbox: "(rules, last)",
                      LoggedHaltedInbox: "(rules, last, limit)"}
        for kind, signature in signatures.items():
            self.assertEqual(kind.__module__, module.__name__)
            self.assertEqual(str(inspect.signature(kind)), signature)
            self.assertIn("__init__", vars(kind))
        for name, signature in {"__call__": "(self, value)", "restart": "(self, value)", "undo": "(self)",
                                "hear_all": "(self, value, *, on_take=None)", "trial": "(self, function)",
                                "copy": "(self)"}.items():
            self.assertEqual(str(inspect.signature(vars(Inbox)[name])), signature)
        for name in ("__contains__", "__iter__", "__len__", "__eq__", "__str__"):
            self.assertIn(name, vars(Inbox))
        for kind, names in {Inbox: ("rules", "last", "stand", "taken", "version"), HaltedInbox: ("wrong", "limit"),
                            LoggedInbox: ("log",)}.items():
            for name in names:
                self.assertIsInstance(vars(kind)[name], property)

    def test_which_class_has_what(self):
        for kind in KINDS:
            inbox, _ = made(kind, R)
            self.assertIs(hasattr(inbox, "wrong"), kind in (HaltedInbox, LoggedHaltedInbox))
            self.assertIs(hasattr(inbox, "limit"), kind in (HaltedInbox, LoggedHaltedInbox))
            self.assertIs(hasattr(inbox, "log"), kind in (LoggedInbox, LoggedHaltedInbox))

    def test_properties_can_only_be_read(self):
        for kind in KINDS:
            inbox, _ = made(kind, R)
            inbox(1)
            before = all_of(inbox)
            for name in ("rules", "last", "stand", "taken", "version", "wrong", "limit", "log"):
                if hasattr(inbox, name):
                    with self.assertRaises(AttributeError):
                        setattr(inbox, name, getattr(inbox, name))
                    with self.assertRaises(AttributeError):
                        delattr(inbox, name)
            self.assertEqual(all_of(inbox), before)


class BeginningTest(InboxTest):
    def test_at_the_beginning(self):
        for kind in KINDS:
            for last in (0, 7, -7, HUGE, -HUGE):
                inbox, plain = made(kind, R, last)
                self.check_state(inbox, plain)
                self.assertIs(inbox.last, last)
                self.assertEqual((inbox.stand, inbox.taken, inbox.version), ((0, last, None), (), 0))
        rules = Rules(R)
        self.assertIs(Inbox(rules, 0).rules, rules)

    def test_no_numbers(self):
        for value in odd_values() + NO_NUMBERS + [nested(1, 20), Rules(R), Inbox(Rules(R), 0)]:
            if value.__class__ is int:
                continue
            for kind in KINDS:
                with self.assertRaises(BadNumber) as caught:
                    made(kind, R, value)
                self.assertIs(caught.exception.value, value)
            for kind in (HaltedInbox, LoggedHaltedInbox):
                with self.assertRaises(BadNumber) as caught:
                    kind(Rules(R), value, 0)
                self.assertIs(caught.exception.value, value)


class DeedsTest(InboxTest):
    def test_examples(self):
        inbox = LoggedHaltedInbox(Rules(R), 0, 2)
        told = [inbox(4), inbox(5), 9 in inbox, inbox.hear_all([6, 7]), inbox.taken, inbox.version, inbox.stand,
                str(inbox)]
        self.assertTrue(same(told, [False, True, False, (True, True), (5, 6, 7), 4, (0, 7, None),
                                    "last 7, 3 taken, 4 deeds"]))
        told = [inbox(7), inbox(7), inbox.wrong, 8 in inbox, inbox.undo(), 8 in inbox, inbox.log[-1]]
        self.assertTrue(same(told, [False, False, 2, False, 5, True, ("undo", 5)]))

    def test_hearing(self):
        rng = random.Random(201)
        for receiver in [R, U, NEVER, ALWAYS, many_rests()] + random_receivers(202, 30) + [full_receiver(rng)]:
            for last in (0, HUGE):
                numbers = random_numbers(rng, 30, 7, last)
                for kind in (Inbox, LoggedInbox):
                    inbox, plain = made(kind, receiver, last)
                    self.assertEqual(tuple(inbox(number) for number in numbers), answers(receiver, numbers, last=last))
                    self.assertEqual(inbox.stand, stand_after(receiver, numbers, last=last))
                    plain.deeds = tuple(("hear", number) for number in numbers)
                    plain.log = inbox.log if kind is LoggedInbox else None
                    self.check_state(inbox, plain)

    def test_no_numbers(self):
        for kind in KINDS:
            inbox, plain = made(kind, ALWAYS)
            inbox(3)
            plain.hear(3)
            for value in odd_values() + NO_NUMBERS + [nested(1, 20), inbox, inbox.rules]:
                if value.__class__ is not int:
                    self.check_call((BadNumber, value), inbox, value)
                    self.check_call((BadNumber, value), inbox.restart, value)
                    self.assertIs(value in inbox, False)
            self.check_state(inbox, plain)

    def test_at_most_60_deeds(self):
        for kind in KINDS:
            inbox, plain = made(kind, ALWAYS, 0, 9)
            for at in range(60):
                self.check_call(plain.hear(at) if at % 3 else plain.restart(at), inbox if at % 3 else inbox.restart, at)
            self.assertEqual(inbox.version, 60)
            self.check_call((TooManyDeeds, None), inbox, 5)
            self.check_call((TooManyDeeds, None), inbox.restart, 5)
            self.check_call((BadNumber, None), inbox, None)
            self.check_call((BadNumber, True), inbox.restart, True)
            self.assertIs(5 in inbox, True)
            self.check_state(inbox, plain)
            self.assertEqual(inbox.undo(), 59)
            plain.undo()
            self.check_call(plain.hear(HUGE), inbox, HUGE)
            self.check_call((TooManyDeeds, None), inbox, 5)
            self.check_state(inbox, plain)

    def test_restart(self):
        for kind in KINDS:
            inbox, plain = made(kind, R)
            for number in (1, 4, 7):
                self.check_call(plain.hear(number), inbox, number)
            for number in (HUGE, -5, 0):
                self.check_call(plain.restart(number), inbox.restart, number)
                self.assertEqual((inbox.stand, inbox.taken), ((0, number, None), (1,)))
                self.check_state(inbox, plain)
            self.assertEqual(inbox.version, 6)

    def test_undo_again_and_again(self):
        for kind in KINDS:
            inbox, plain = made(kind, R, 0, 9)
            self.check_call((NothingToUndo, None), inbox.undo)
            states = [all_of(inbox)[:9]]
            for at, number in enumerate((1, 5, 6, 6, 2, 20, 8, 9, 9)):
                self.check_call(plain.restart(number) if at == 5 else plain.hear(number),
                                inbox.restart if at == 5 else inbox, number)
                states.append(all_of(inbox)[:9])
            for version in range(8, -1, -1):
                self.assertEqual(inbox.undo(), version)
                plain.undo()
                self.check_state(inbox, plain)
                self.assertEqual(all_of(inbox)[:9], states[version])
            self.check_call((NothingToUndo, None), inbox.undo)
            self.check_call(plain.hear(2), inbox, 2)
            self.check_state(inbox, plain)

    def test_deeds_by_chance(self):
        rng = random.Random(203)
        receivers = [R, U, ALWAYS, NEVER, paired(1, 6, 4), window(3)] + random_receivers(204, 20)
        for receiver in receivers:
            for kind in KINDS:
                inbox, plain = made(kind, receiver, rng.choice((0, 5, -5, HUGE)), rng.randint(1, 9))
                for _ in range(25):
                    self.act(rng, inbox, plain)

    def test_many_deeds_by_chance(self):
        rng = random.Random(205)
        for kind in KINDS:
            inbox, plain = made(kind, R, 0, 9)
            for _ in range(150):
                self.act(rng, inbox, plain)


class TrialTest(InboxTest):
    def test_what_is_returned(self):
        answer = [1]
        for kind in KINDS:
            inbox, _ = made(kind, R)
            self.assertIs(inbox.trial(lambda box: answer), answer)
            self.assertIs(inbox.trial(lambda box: box), inbox)
            self.assertIsNone(inbox.trial(lambda box: None))

    def test_all_is_put_back(self):
        for kind in KINDS:
            inbox, _ = made(kind, R, 0, 2)
            inbox(1)
            inbox.restart(5)
            inbox(9)
            before, earlier = all_of(inbox), undone(inbox)

            def deeds(box):
                box(10)
                box.restart(40)
                box.undo()
                box.undo()
                box.undo()
                box.undo()
                box.hear_all((2, 3))
                return all_of(box)

            self.assertNotEqual(inbox.trial(deeds), before)
            self.assertEqual((all_of(inbox), undone(inbox)), (before, earlier))

    def test_exceptions_go_on(self):
        class Odd(BaseException):
            pass

        for kind in KINDS:
            for error in (Boom, Odd, KeyboardInterrupt, StopIteration, TooManyDeeds, BadNumber):
                inbox, _ = made(kind, R)
                inbox(1)
                before = all_of(inbox)
                raised = error(7)

                def fails(box):
                    box(2)
                    box.restart(9)
                    raise raised

                with self.assertRaises(error) as caught:
                    inbox.trial(fails)
                self.assertIs(caught.exception, raised)
                self.assertEqual(all_of(inbox), before)

    def test_errors_of_the_inbox_go_on(self):
        for kind in KINDS:
            inbox, _ = made(kind, R)
            inbox(1)
            before = all_of(inbox)
            with self.assertRaises(NothingToUndo):
                inbox.trial(lambda box: [box.undo(), box.undo()])
            self.assertEqual(all_of(inbox), before)

    def test_trials_within_trials(self):
        for kind in KINDS:
            inbox, _ = made(kind, R)
            inbox(1)
            seen = []

            def inner(box):
                box(4)
                seen.append(all_of(box))
                raise Boom()

            def outer(box):
                box(2)
                before = all_of(box)
                with self.assertRaises(Boom):
                    box.trial(inner)
                self.assertEqual(all_of(box), before)
                box(3)
                return box.taken, box.version

            before = all_of(inbox)
            self.assertEqual(inbox.trial(outer), ((1, 2, 3), 3))
            self.assertEqual(all_of(inbox), before)
            self.assertEqual(seen[0][5], 3)

    def test_a_row_within_a_trial(self):
        for kind in KINDS:
            inbox, _ = made(kind, ALWAYS)

            def attempt(box):
                box.hear_all((1, 2), on_take=self.check_busy)
                box(3)
                return box.taken

            self.assertEqual(inbox.trial(attempt), (1, 2, 3))
            self.assertEqual((inbox.taken, inbox.version), ((), 0))
            self.assertIs(inbox(5), True)


class CopyTest(InboxTest):
    def test_copies(self):
        for kind in KINDS:
            inbox, _ = made(kind, R, 3, 4)
            inbox.hear_all((4, 7, 7, 30))
            inbox.restart(9)
            inbox(9)
            before, earlier = all_of(inbox), undone(inbox)
            copied = inbox.copy()
            self.assertIs(copied.__class__, kind)
            self.assertIs(copied.rules, inbox.rules)
            self.assertEqual((all_of(copied), undone(copied)), (before, earlier))
            copied(10)
            copied.restart(50)
            self.assertEqual((all_of(inbox), undone(inbox)), (before, earlier))
            inbox.undo()
            inbox.undo()
            self.assertEqual((copied.taken, copied.version, copied.last), ((4, 10), 8, 50))

    def test_a_copy_of_a_full_inbox(self):
        for kind in KINDS:
            inbox, _ = made(kind, ALWAYS)
            for at in range(60):
                inbox(at)
            copied = inbox.copy()
            with self.assertRaises(TooManyDeeds):
                copied(5)
            copied.undo()
            copied(5)
            self.assertEqual((inbox.last, copied.last), (59, 5))


class EqualityTest(InboxTest):
    def check_equal(self, expected, one, other):
        self.assertIs(one == other, expected)
        self.assertIs(other == one, expected)
        self.assertIs(one != other, not expected)

    def test_lasts(self):
        for kind in KINDS:
            for other in KINDS:
                self.check_equal(True, made(kind, R, 5)[0], made(other, R, 5)[0])
                self.check_equal(False, made(kind, R, 5)[0], made(other, R, 6)[0])
                self.check_equal(True, made(kind, NEVER, HUGE)[0], made(other, ((), U[0]), HUGE)[0])
                self.check_equal(False, made(kind, NEVER, HUGE)[0], made(other, U, HUGE)[0])

    def test_what_is_kept(self):
        one, other = Inbox(Rules(R), 0), Inbox(Rules(R), 0)
        other(4)
        self.check_equal(False, one, other)
        for number, equal in ((3, False), (5, False), (4, True), (4, True), (3, False), (4, False)):
            one(number)
            self.check_equal(equal, one, other)
        kept = Inbox(Rules(((row((1, 2)), row((3, 6), None, "keep", 0)),)), 0)
        as_kept = kept.copy()
        kept(4)
        self.assertNotEqual(kept.stand, as_kept.stand)
        self.check_equal(True, kept, as_kept)

    def test_deeds_and_halts_play_no_part(self):
        one, other = HaltedInbox(Rules(R), 0, 1), LoggedInbox(Rules(R), 7)
        one(0)
        for number in (8, 9, 20, 10):
            other(number)
        other.restart(0)
        self.check_equal(True, one, other)
        self.check_equal(True, one, Inbox(Rules.paired(2, 5, 2), 0))
        self.check_equal(False, one, Inbox(Rules(U), 0))

    def test_unlike_any_other_value(self):
        for kind in KINDS:
            inbox, _ = made(kind, R)
            others = [R, inbox.rules, inbox.stand, 0, (0, 0, None), str(inbox), (inbox,), nested(0, 20)]
            for value in odd_values() + others:
                self.check_equal(False, inbox, value)

    def test_as_point_20_says(self):
        rng = random.Random(206)
        found = []
        receivers = [R, U, NEVER, paired(1, 4, 3)] + random_receivers(207, 40)
        for receiver in receivers:
            for other in (receiver, reshaped(rng, receiver), rng.choice(receivers)):
                one, _ = made(rng.choice(KINDS), receiver, 0, 9)
                two, _ = made(rng.choice(KINDS), other, 0, 9)
                for number in random_numbers(rng, 3, 5):
                    one(number)
                    two(number if rng.random() < 0.8 else number + 1)
                for inbox in (one, two):
                    if rng.random() < 0.5:
                        inbox.hear_all(random_numbers(rng, 2, 4, inbox.last)[:rng.randint(0, 2)])
                alike = plain_alike_from((receiver, plain_rest(one.stand)), (other, plain_rest(two.stand)))
                found.append(one.last == two.last and alike)
                self.check_equal(found[-1], one, two)
        self.assertTrue(20 < sum(found) < len(found) - 20, sum(found))


class TextAndLoopTest(InboxTest):
    def test_texts(self):
        inbox = Inbox(Rules(U), -5)
        self.assertEqual(str(inbox), "last -5, 0 taken, 0 deeds")
        inbox.hear_all((7, 6, 8))
        self.assertEqual(str(inbox), "last 8, 2 taken, 3 deeds")
        inbox.restart(-10 ** 999)
        self.assertEqual(str(inbox), f"last -1{'0' * 999}, 2 taken, 4 deeds")
        for kind in KINDS:
            self.assertEqual(str(made(kind, R, 3)[0]), "last 3, 0 taken, 0 deeds")

    def test_loops(self):
        for kind in KINDS:
            inbox, _ = made(kind, ALWAYS)
            self.assertEqual((list(inbox), len(inbox)), ([], 0))
            inbox.hear_all((3, 1, 2, 2))
            inbox.restart(7)
            inbox(HUGE)
            self.assertEqual(([number for number in inbox], len(inbox)), ([3, 1, 2, 2, HUGE], 5))
            self.assertEqual(list(zip(inbox, inbox)), [(number, number) for number in inbox.taken])
            inbox.undo()
            self.assertEqual((tuple(inbox), len(inbox)), ((3, 1, 2, 2), 4))
