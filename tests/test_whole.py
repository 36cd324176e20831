"""What points 1, 2, 3 and 25 promise over the whole program: any value, and the same answers in all forms."""

import inspect
import random

from lateposts import (
    bounds, desks, disorder, errors, forms, hearing, inboxes, logs, losses, pairs, receivers, rests, rules, spare,
                       texts,
    windows,
)
from lateposts.desks import Desk
from lateposts.disorder import bears_doubles, doubled_holds, falling_holds, only_rises
from lateposts.errors import BadReceiver, BadRow, BadText, PostError
from lateposts.forms import form_answers, form_of, is_form, place_after
from lateposts.hearing import answers, hear, stand_after
from lateposts.inboxes import HaltedInbox, Inbox, LoggedHaltedInbox, LoggedInbox
from lateposts.logs import fits, is_log, sure_of
from lateposts.losses import closed, longest_wait, stuck_holds, waits
from lateposts.pairs import alike, below, pairing_holds, pairing_of, parting_holds
from lateposts.receivers import is_stand, receiver_error
from lateposts.rests import reached, rest_of, step_from
from lateposts.rules import Rules
from lateposts.spare import lean, mirrored, spare_rows
from lateposts.texts import log_text, parse_log, parse_receiver, receiver_text
from lateposts.windows import paired, window
from tests.checks import CallsTest
from tests.samples import (
    HUGE, R, U, full_receiver, nested, odd_values, random_numbers, random_receivers, reshaped, same,
)

INTERFACE = {
    errors: "PostError BadReceiver BadNumber BadRow BadStep BadSize BadCount BadText NoFit TooManyDeeds NothingToUndo "
            "Busy Halted NoPlace",
    receivers: "receiver_error is_stand",
    hearing: "hear answers stand_after",
    rests: "rest_of step_from reached",
    forms: "is_form form_of form_answers place_after",
    pairs: "alike parting parting_holds pairing_of pairing_holds below",
    spare: "never_counts spare_rows without_row lean mirrored",
    disorder: "only_rises falling_row falling_holds bears_doubles doubled_row doubled_holds",
    losses: "waits longest_wait stuck stuck_holds most_lost closed",
    windows: "window paired",
    logs: "is_log fits lasts_now sure_of fitting",
    rules: "Rules",
    inboxes: "Inbox HaltedInbox LoggedInbox LoggedHaltedInbox",
    texts: "receiver_text log_text parse_receiver parse_log",
    desks: "Desk",
}


def objects():
    """Functions, classes and objects of the package, and tuples that have them where something else belongs."""
    rules, inbox = Rules(R), LoggedHaltedInbox(Rules(R), 0, 3)
    desk = Desk(inbox)
    found = [rules, inbox, desk, Inbox, Rules, HaltedInbox, PostError, receiver_error, rules.receiver, inbox.log, HUGE]
    for value in (rules, inbox, desk, receiver_error, HUGE, PostError()):
        found += [(value,), (value, value), (value, value, value), ((value,),), ((value, value),), ((value,) * 4,),
                  (((value,) * 4,),),
                  ((((value, value), None, "take", 0),),), ((((1, 2), value, "take", 0),),),
                  ((((1, 2), None, value, 0),),),
                  ((((1, 2), None, "take", value),),), (0, 0, value), (0, value, None), (value, 0, None),
                  ((1, 2), value),
                  (value, 0), ((value,), 0), ((1, value), True), ((value, False, 0), (None, True, 0)),
                  (((value, False, 0), (None, True, 0)),), (((None, value, 0),),), (((None, True, value),),),
                  (((0,), (0, value)),), (((value,), (0,)),), nested(value, 18), [value], {0: value}]
    return found


class InterfaceTest(CallsTest):
    def test_every_name_is_defined_in_its_own_file(self):
        for module, names in INTERFACE.items():
            for name in names.split():
                self.assertEqual(getattr(module, name).__module__, module.__name__)
        for name, value in dict(MAX_BOUND=6, MAX_STATES=4, MAX_ROWS=6, MAX_PLACES=56, MAX_LOG=40, MAX_DEEDS=60,
                                MAX_ROW=20).items():
            self.assertTrue(same(getattr(bounds, name), value))

    def test_errors_that_are_raised_are_all_post_errors_or_lookups(self):
        for kind in vars(errors).values():
            if inspect.isclass(kind) and kind is not PostError:
                self.assertIn(kind.__bases__, ((PostError,), (LookupError,)))


class AnyValueTest(CallsTest):
    def test_functions_that_accept_any_value(self):
        functions = [
            receiver_error, Rules.is_receiver, lambda value: is_stand(R, value), is_form, is_log,
            lambda value: parting_holds(R, U, value), lambda value: parting_holds(R, U, value, rising=True),
            lambda value: pairing_holds(R, R, value), lambda value: falling_holds(U, value),
                     lambda value: doubled_holds(R, value),
            lambda value: stuck_holds(R, value), lambda value: value in Rules(R),
                     lambda value: value in Inbox(Rules(R), 0),
            lambda value: Rules(R) == value, lambda value: Inbox(Rules(R), 0) == value,
        ]
        for value in odd_values() + objects():
            for function in functions:
                told = function(value)
                self.assertTrue(told is None or told.__class__ in (bool, tuple))

    def test_values_that_are_no_integers_no_rows_and_no_texts(self):
        inbox = Inbox(Rules(U), 0)
        for value in odd_values() + objects():
            self.assertIs(Desk(inbox).say(value).__class__, str)
            if value.__class__ is int:
                continue
            for function, given in (
                (lambda one: Inbox(Rules(U), one), (value,)), (inbox, (value,)), (inbox.restart, (value,)),
                                    (waits, (R, value)),
                (window, (value,)), (paired, (2, value, 3)), (lambda one: HaltedInbox(Rules(U), 0, one), (value,)),
            ):
                with self.assertRaises(PostError) as caught:
                    function(*given)
                self.assertIs(caught.exception.value, value)
            if value.__class__ not in (list, tuple):
                with self.assertRaises(BadRow):
                    inbox.hear_all(value)
            if not isinstance(value, str):
                for function in (parse_receiver, parse_log):
                    with self.assertRaises(BadText) as caught:
                        function(value)
                    self.assertIsNone(caught.exception.index)
            if receiver_error(value) is not None:
                with self.assertRaises(BadReceiver) as caught:
                    Rules(value)
                self.assertTrue(same(caught.exception.error, receiver_error(value)))
        self.assertEqual((inbox.version, inbox.last), (0, 0))

    def test_no_function_of_a_module_changes_anything(self):
        """The objects that take part stay as they are, also where an error is raised."""
        inbox = LoggedInbox(Rules(R), 0)
        inbox.hear_all((1, 4))
        before = (inbox.stand, inbox.taken, inbox.version, inbox.log, inbox.rules.receiver, inbox.rules.form)
        for value in objects() + [inbox, (inbox,), inbox.log]:
            for function in (receiver_error, is_form, is_log, lambda one: falling_holds(U, one)):
                self.call(function, value)
        self.assertEqual((inbox.stand, inbox.taken, inbox.version, inbox.log, inbox.rules.receiver, inbox.rules.form),
                         before)


class FactsTest(CallsTest):
    """Point 2 across the modules: all ways of asking give the same answers."""

    def setUp(self):
        rng = random.Random(31)
        self.rng = rng
        self.receivers = [R, U, ((),), window(4), paired(1, 5, 3), full_receiver(rng)] + random_receivers(32, 30)

    def test_all_answer_alike(self):
        for receiver in self.receivers:
            for last in (0, -HUGE):
                numbers = random_numbers(self.rng, 20, 7, last)
                expected = answers(receiver, numbers, last=last)
                form = form_of(receiver)
                rules = Rules(receiver)
                inbox = Inbox(rules, last)
                self.assertEqual(form_answers(form, numbers, last=last), expected)
                self.assertEqual(rules(numbers, last), expected)
                self.assertEqual(inbox.hear_all(numbers), expected)
                self.assertEqual(inbox.stand, stand_after(receiver, numbers, last=last))
                self.assertEqual(answers(lean(receiver), numbers, last=last), expected)
                turned = tuple(-number for number in numbers)
                self.assertEqual(answers(mirrored(receiver), turned, last=-last), expected)
                self.assertEqual((-rules)(turned, -last), expected)
                self.assertIn(rest_of(inbox.stand), reached(receiver))
                place = place_after(form, numbers, last=last)
                step = self.rng.randint(-15, 15)
                self.assertEqual(rules[place, step][0], step_from(receiver, rest_of(inbox.stand), step)[0])
                self.assertEqual(inbox.last + step in inbox, hear(receiver, inbox.stand, inbox.last + step)[0])

    def test_forms_and_pairings_and_orders(self):
        for receiver in self.receivers:
            for other in (reshaped(self.rng, receiver), self.rng.choice(self.receivers)):
                same_answers = alike(receiver, other)
                self.assertEqual(form_of(receiver) == form_of(other), same_answers)
                self.assertEqual(Rules(receiver) == Rules(other), same_answers)
                self.assertEqual(pairing_of(receiver, other) is not None, same_answers)
                self.assertEqual(below(receiver, other) and below(other, receiver), same_answers)
                self.assertEqual(Inbox(Rules(receiver), 5) == Inbox(Rules(other), 5), same_answers)
            self.assertEqual(spare_rows(lean(receiver)), ())

    def test_what_is_alike_is_told_alike(self):
        """What hangs on the answers alone is told of all receivers that answer alike."""
        for receiver in self.receivers:
            other = reshaped(self.rng, receiver)
            numbers = random_numbers(self.rng, 5)
            log = tuple(zip(numbers, answers(receiver, numbers, last=3)))
            for function in (only_rises, bears_doubles, longest_wait, lambda one: waits(one, 1),
                             lambda one: fits(one, log),
                             lambda one: sure_of(one, log, 4), lambda one: len(closed(one)) > 0):
                self.assertEqual(function(receiver), function(other), (receiver, other))

    def test_texts_are_read_back(self):
        for receiver in self.receivers:
            self.assertTrue(same(parse_receiver(receiver_text(receiver)), receiver))
            numbers = random_numbers(self.rng, 9)
            log = tuple(zip(numbers, answers(receiver, numbers)))
            self.assertTrue(same(parse_log(log_text(log)), log))
            self.assertNotEqual(fits(receiver, log), ())
