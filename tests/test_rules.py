"""Point 19: Rules."""

import inspect
import random

from lateposts import rules as module
from lateposts.errors import BadReceiver, BadSize, BadStep, NoPlace
from lateposts.forms import form_of
from lateposts.receivers import receiver_error
from lateposts.rules import Rules
from lateposts.spare import lean, mirrored
from lateposts.windows import paired, window
from tests.checks import CallsTest
from tests.plain import cover, plain_alike, plain_answers, plain_below
from tests.samples import (
    HUGE, R, U, full_receiver, many_rests, near, nested, odd_values, random_numbers, random_receivers, reshaped, row,
)

NEVER = ((),)
ALWAYS = ((row((None, None)),),)


def samples(seed, many):
    rng = random.Random(seed)
    usual = [R, U, NEVER, ALWAYS, ((),) * 4, many_rests(), window(3), paired(1, 6, 4)]
    return usual + random_receivers(seed + 1, many) + [full_receiver(rng) for _ in range(many // 4)]


def receiver_pairs(seed, many):
    rng = random.Random(seed)
    found = [(R, U), (U, R), (R, R), (NEVER, ALWAYS), (window(2), window(3)), (window(3), U), (R, window(6))]
    for receiver in samples(seed + 1, many):
        found += [(receiver, reshaped(rng, receiver)), (receiver, near(rng, receiver)), (receiver, U),
                  (NEVER, receiver)]
    return found


class RulesTest(CallsTest):
    def test_interface(self):
        self.assertEqual(Rules.__module__, module.__name__)
        self.assertEqual(Rules.__bases__, (object,))
        self.assertEqual(str(inspect.signature(Rules)), "(value)")
        for name in ("receiver", "form"):
            self.assertIsInstance(vars(Rules)[name], property)
        for name in ("window", "paired"):
            self.assertIsInstance(vars(Rules)[name], classmethod)
        self.assertIsInstance(vars(Rules)["is_receiver"], staticmethod)
        for name in ("__init__", "__call__", "__contains__", "__len__", "__getitem__", "__neg__", "__abs__", "__eq__",
                     "__lt__", "__le__", "__gt__", "__ge__", "__bool__", "__str__"):
            self.assertIn(name, vars(Rules))
        self.assertEqual(str(inspect.signature(Rules.__call__)), "(self, numbers, last)")
        self.assertEqual(str(inspect.signature(Rules.window)), "(size)")
        self.assertEqual(str(inspect.signature(Rules.paired)), "(size, wide, times)")
        self.assertEqual(str(inspect.signature(Rules.is_receiver)), "(value)")

    def test_examples(self):
        self.assertIs(Rules(R) < Rules(U), True)
        self.assertIs(Rules(R) == Rules.paired(2, 5, 2), True)
        self.assertIs(3 in Rules(U), True)
        self.assertEqual(Rules(R)[1, 4], (True, 0))
        self.assertEqual(str(Rules(R)), "2 states, 5 rows, 3 places")
        self.assertIs(bool(-Rules(U)), True)

    def test_receiver_and_form(self):
        for receiver in samples(191, 40):
            rules = Rules(receiver)
            self.assertIs(rules.receiver, receiver)
            self.assertEqual(rules.form, form_of(receiver))

    def test_properties_can_only_be_read(self):
        rules = Rules(R)
        for name, value in (("receiver", U), ("form", form_of(U))):
            with self.assertRaises(AttributeError):
                setattr(rules, name, value)
            with self.assertRaises(AttributeError):
                delattr(rules, name)
        self.assertEqual((rules.receiver, rules.form), (R, form_of(R)))

    def test_no_receivers(self):
        for value in odd_values() + [
            (), (((),),), ((row((1, None), None, "keep"),),), ((), (row(to_state=2),)), ((row((7, 7)),),), [R[0], R[1]],
            ([row()],), (((1, 2), None, "take"),), ((row((2, 1)),),), ((row((1, 2), 3),),), ((row(deed="Take"),),),
            ((row(to_state=True),),), ((row((True, 2)),),), ((),) * 5, ((row(),) * 7,), Rules(R), (Rules(R),),
                                     nested((), 20),
        ]:
            self.assertIs(Rules.is_receiver(value), receiver_error(value) is None)
            if receiver_error(value) is not None:
                with self.assertRaises(BadReceiver) as caught:
                    Rules(value)
                self.assertEqual(caught.exception.error, receiver_error(value))
        for receiver in samples(192, 10):
            self.assertIs(Rules.is_receiver(receiver), True)
            self.assertIs(Rules(receiver).is_receiver(receiver), True)

    def test_windows(self):
        for size in range(1, 7):
            rules = Rules.window(size)
            self.assertIs(rules.__class__, Rules)
            self.assertEqual(rules.receiver, window(size))
        for size, wide, times in ((1, 2, 2), (2, 5, 2), (5, 6, 4), (1, 6, 3)):
            rules = Rules.paired(size, wide, times)
            self.assertIs(rules.__class__, Rules)
            self.assertEqual(rules.receiver, paired(size, wide, times))
        for value in (0, 7, True, None, "1", HUGE, (1,), [1]):
            for function, given in ((Rules.window, (value,)), (Rules.paired, (value, 6, 2)),
                                    (Rules.paired, (2, value, 2)),
                                    (Rules.paired, (2, 6, value)), (Rules.paired, (value, 0, 0))):
                with self.assertRaises(BadSize) as caught:
                    function(*given)
                self.assertIs(caught.exception.value, value)

    def test_answers(self):
        rng = random.Random(193)
        for receiver in samples(194, 40):
            for last in (0, 7, -HUGE):
                numbers = random_numbers(rng, 12, 9, last)
                self.check(plain_answers(receiver, numbers, last), Rules(receiver).__call__, numbers, last)
        self.assertEqual(Rules(U)((), 5), ())
        self.assertEqual(Rules(U)((7, 7, -3), -5), (True, False, False))

    def test_what_is_taken_at_the_beginning(self):
        for receiver in samples(195, 40):
            rules = Rules(receiver)
            for value in list(range(-15, 16)) + [HUGE, -HUGE]:
                self.assertIs(value in rules, plain_answers(receiver, (value,))[0])
        every = Rules(ALWAYS)
        for value in odd_values() + [(1,), (0, 0), nested(1, 20), R, U, every, "1"]:
            self.assertIs(value in every, value.__class__ is int)

    def test_places(self):
        for receiver in samples(196, 25):
            rules = Rules(receiver)
            form = form_of(receiver)
            self.assertIs(len(rules).__class__, int)
            self.assertEqual(len(rules), len(form))
            for place in range(len(form)):
                for step in list(range(-16, 17)) + [HUGE, -HUGE]:
                    told = rules[place, step]
                    self.assertIs(told.__class__, tuple)
                    self.assertEqual(told, cover(form[place], step))
                    self.assertEqual([item.__class__ for item in told], [bool, int])

    def test_no_places_and_no_steps(self):
        rules = Rules(R)
        for value in odd_values() + [(), (0,), nested(0, 20), 3, -1, True, False, "0", rules]:
            if value.__class__ is int and 0 <= value < 3:
                continue
            for step in (0, None, True, value):
                with self.assertRaises(NoPlace) as caught:
                    rules[value, step]
                self.assertIs(caught.exception.value, value)
        for value in odd_values() + [(), (0,), nested(0, 20), True, False, "0", rules]:
            if value.__class__ is not int:
                for place in range(3):
                    with self.assertRaises(BadStep) as caught:
                        rules[place, value]
                    self.assertIs(caught.exception.value, value)

    def test_no_loops(self):
        for function in (list, tuple, sorted, iter, lambda rules: [one for one in rules], lambda rules: dict(rules)):
            with self.assertRaises(TypeError):
                function(Rules(R))
        with self.assertRaises(TypeError):
            for _ in Rules(R):
                pass
        with self.assertRaises(TypeError):
            first, second, third = Rules(R)

    def test_turned_and_lean(self):
        for receiver in samples(197, 25):
            for rules, expected in ((-Rules(receiver), mirrored(receiver)), (abs(Rules(receiver)), lean(receiver))):
                self.assertIs(rules.__class__, Rules)
                self.assertEqual(rules.receiver, expected)
                self.assertEqual(rules.form, form_of(expected))
        self.assertEqual((-Rules(U)).receiver, ((((None, -1), None, "take", 0),),))
        self.assertEqual(abs(Rules((U[0] * 3,))).receiver, U)

    def test_equal_exactly_if_alike(self):
        found = []
        for one, other in receiver_pairs(198, 40):
            same = plain_alike(one, other)
            found.append(same)
            self.assertIs(Rules(one) == Rules(other), same)
            self.assertIs(Rules(one) != Rules(other), not same)
        self.assertTrue(30 < sum(found) < len(found) - 30)

    def test_unlike_any_other_value(self):
        rules = Rules(R)
        for value in odd_values() + [R, form_of(R), str(rules), (), (rules,), nested(R, 18)]:
            self.assertIs(rules == value, False)
            self.assertIs(value == rules, False)
            self.assertIs(rules != value, True)

    def test_order(self):
        found = []
        for one, other in receiver_pairs(199, 30):
            first, second = Rules(one), Rules(other)
            below, above, same = plain_below(one, other), plain_below(other, one), plain_alike(one, other)
            found.append((below, above))
            self.assertIs(first <= second, below)
            self.assertIs(first < second, below and not same)
            self.assertIs(first >= second, above)
            self.assertIs(first > second, above and not same)
        for pair in ((True, True), (True, False), (False, False)):
            self.assertGreater(found.count(pair), 10)

    def test_truth(self):
        for receiver in (R, U, ALWAYS, ((row((1, 1), None, "leave", 1),), (row(),)),
                         ((row((6, 6), None, "keep"), row((1, 1), (0, 0))),)):
            self.assertIs(bool(Rules(receiver)), not (receiver[0][0][2] == "keep"))
        for receiver in (NEVER, ((),) * 4, ((), U[0]), ((row((None, None), None, "drop"), row()),),
                         ((row((1, 2), (0, 0)),),)):
            self.assertIs(bool(Rules(receiver)), False)
        for receiver in samples(200, 60):
            self.assertIs(bool(Rules(receiver)), not plain_alike(receiver, NEVER))

    def test_texts(self):
        self.assertEqual(str(Rules(U)), "1 states, 1 rows, 1 places")
        self.assertEqual(str(Rules(((),) * 4)), "4 states, 0 rows, 1 places")
        self.assertEqual(str(Rules(many_rests())), "4 states, 16 rows, 56 places")
        for receiver in samples(201, 20):
            many = sum(len(state) for state in receiver)
            self.assertEqual(str(Rules(receiver)),
                             f"{len(receiver)} states, {many} rows, {len(form_of(receiver))} places")

    def test_nothing_is_changed(self):
        rules, other = Rules(R), Rules(U)
        for _ in range(2):
            self.assertEqual((rules.receiver, rules.form, other.receiver), (R, form_of(R), U))
            rules((1, 4, 5), 0), 3 in rules, len(rules), rules[0, 1], -rules, abs(rules), bool(rules), str(rules)
            rules == other, rules < other, rules <= other, rules > other, rules >= other
