"""Points 8 and 2 (a): form_of, form_answers, place_after."""

import random
import unittest

from lateposts import forms
from lateposts.bounds import MAX_PLACES
from lateposts.forms import form_answers, form_of, is_form, place_after
from lateposts.hearing import answers
from tests.checks import CallsTest
from tests.plain import place_course, plain_alike, plain_answers, unlike_rests
from tests.samples import (
    HUGE, R, U, counting_places, full_receiver, many_rests, near, plain_reached, random_numbers, random_receivers,
    renumbered, reshaped, row, same,
)

FORM_OF_R = (
    ((0, False, 0), (2, True, 0), (3, False, 1), (4, False, 2), (None, False, 0)),
    ((0, False, 1), (2, True, 0), (3, False, 1), (4, True, 0), (5, False, 0), (None, False, 1)),
    ((0, False, 2), (2, True, 0), (3, False, 1), (4, False, 2), (5, True, 0), (None, False, 2)),
)
NEVER = (((None, False, 0),),)


class FormOfTest(CallsTest):
    def test_interface(self):
        self.check_interface(forms, {
            "is_form": "(value)",
            "form_of": "(receiver)",
            "form_answers": "(form, numbers, *, last=0)",
            "place_after": "(form, numbers, *, last=0)",
        })

    def test_examples(self):
        self.check(FORM_OF_R, form_of, R)
        self.check((((0, False, 0), (None, True, 0)),), form_of, U)

    def test_receivers_that_never_take(self):
        for receiver in (
            ((),), ((),) * 4,
            ((row((-6, 6), None, "keep", 0),),),
            ((row((None, None), None, "leave", 1),), (row((None, None), None, "drop", 0),)),
            ((row((None, None), (None, None), "take", 0),),),
            ((row((None, None), None, "drop", 1), row((1, 1), None, "take", 0)), ()),
            ((row((-6, 6), None, "keep", 1), row((None, None), None, "leave", 0)), (row((1, 2), None, "drop", 0),)),
        ):
            self.check(NEVER, form_of, receiver)

    def test_receiver_that_takes_everything(self):
        self.check((((None, True, 0),),), form_of, ((row((None, None)),),))
        always = ((row((None, None), None, "take", 1),), (row((None, 3), None, "take", 0), row((4, None), None, "take",
                  1)))
        self.check((((None, True, 0),),), form_of, always)

    def test_states_that_are_never_reached(self):
        rng = random.Random(31)
        for receiver in random_receivers(32, 40):
            if len(receiver) < 4:
                unreached = full_receiver(rng)[:4 - len(receiver)]
                self.check(form_of(receiver), form_of, receiver + unreached)
        self.check(form_of(U), form_of, (U[0], (row((1, 1), None, "keep", 1),)))

    def test_places_numbered_as_they_are_first_led_to(self):
        receiver = ((row((1, 1), None, "take", 3), row((3, 3), None, "take", 1)), (), (row((5, 5)),),
                    (row((2, 2), None, "take", 2),))
        expected = (
            ((0, False, 0), (1, True, 1), (2, False, 0), (3, True, 2), (None, False, 0)),
            ((1, False, 1), (2, True, 3), (None, False, 1)),
            ((None, False, 2),),
            ((4, False, 3), (5, True, 0), (None, False, 3)),
        )
        self.check(expected, form_of, receiver)
        for numbers in ([0, 1, 3, 2], [0, 2, 3, 1], [0, 3, 1, 2]):
            self.check(expected, form_of, renumbered(receiver, numbers))

    def test_runs_beside_one_another_are_unlike(self):
        receiver = ((row((1, 1)), row((2, 4)), row((6, 6)), row((5, 5)), row((-3, -3), None, "leave", 0)),)
        self.check((((0, False, 0), (6, True, 0), (None, False, 0)),), form_of, receiver)

    def test_first_and_last_highs(self):
        up = ((row((6, 6), None, "keep", 1),), (row((None, None), (None, 6), "leave", 1), row((None, None))))
        self.assertEqual(self.call(form_of, up)[1], ((12, False, 1), (None, True, 0)))
        down = ((row((-6, -6), None, "keep", 1),), (row((None, None), (-6, None), "leave", 1), row((None, None))))
        self.assertEqual(self.call(form_of, down)[1], ((-13, True, 0), (None, False, 1)))

    def test_as_many_places_as_there_may_be(self):
        form = self.call(form_of, many_rests())
        self.assertEqual(len(form), MAX_PLACES)
        self.check(True, is_form, form)

    def test_forms_are_forms(self):
        rng = random.Random(33)
        for receiver in random_receivers(34, 60) + [full_receiver(rng) for _ in range(10)]:
            self.check(True, is_form, self.call(form_of, receiver))

    def test_no_form_has_fewer_places(self):
        for receiver in random_receivers(35, 60):
            self.assertEqual(len(form_of(receiver)), unlike_rests(receiver, plain_reached(receiver)), receiver)

    def test_answers_as_its_receiver(self):
        rng = random.Random(36)
        for receiver in random_receivers(37, 80) + [R, U, many_rests()]:
            form = form_of(receiver)
            for last in (0, 9, -HUGE):
                numbers = random_numbers(rng, 25, rng.choice((3, 9, 20)), last)
                told, _ = place_course(form, numbers, last)
                self.assertEqual(told, plain_answers(receiver, numbers, last), receiver)

    def test_alike_receivers_of_another_shape_have_equal_forms(self):
        rng = random.Random(38)
        for receiver in random_receivers(39, 60) + [R, U, many_rests()]:
            other = reshaped(rng, receiver)
            self.assertTrue(same(form_of(receiver), form_of(other)), (receiver, other))

    def test_equal_forms_exactly_if_alike(self):
        rng = random.Random(40)
        for receiver in random_receivers(41, 60):
            other = near(rng, receiver)
            self.assertEqual(form_of(receiver) == form_of(other), plain_alike(receiver, other), (receiver, other))


class FormAnswersTest(CallsTest):
    def test_example(self):
        self.check((False, True), form_answers, FORM_OF_R, (4, 5))

    def test_no_numbers(self):
        for form in (FORM_OF_R, NEVER):
            self.check((), form_answers, form, ())
            self.check(0, place_after, form, ())
            self.check((), form_answers, form, (), last=HUGE)
            self.check(0, place_after, form, (), last=-3)

    def test_runs_cover_up_to_their_highs(self):
        form = (((-13, True, 0), (-12, False, 1), (0, True, 0), (12, False, 0), (None, True, 1)), ((None, False, 1),))
        for step, taken, place in (
            (-HUGE, True, 0), (-14, True, 0), (-13, True, 0), (-12, False, 1), (-11, True, 0), (0, True, 0),
            (1, False, 0), (12, False, 0), (13, True, 1), (14, True, 1), (HUGE, True, 1),
        ):
            for last in (0, 5, -7, HUGE):
                self.check((taken,), form_answers, form, (last + step,), last=last)
                self.check(place, place_after, form, (last + step,), last=last)

    def test_step_by_step(self):
        numbers = (3, 4, 6, 10, 11, 12)
        self.check((False, True, True, False, True, True), form_answers, FORM_OF_R, numbers)
        self.assertEqual([place_after(FORM_OF_R, numbers[:at]) for at in range(7)], [0, 1, 0, 0, 2, 0, 0])
        self.check(1, place_after, FORM_OF_R, (3,))
        self.check(2, place_after, FORM_OF_R, (4,))
        self.check(2, place_after, FORM_OF_R, (4, 6))
        self.check(0, place_after, FORM_OF_R, (4, 5))

    def test_a_taken_number_is_last(self):
        form = (((0, False, 0), (2, True, 0), (None, False, 0)),)
        self.check((True, True, False, True, True, False), form_answers, form, (2, 4, 4, 5, 7, 10))
        self.check((False, False, True), form_answers, form, (4, 5, 2))

    def test_last_left_out_and_given(self):
        form = form_of(U)
        self.check((True, False), form_answers, form, (1, 0))
        self.check((True, False), form_answers, form, (1, 0), last=0)
        self.check((False, False), form_answers, form, (1, 0), last=1)
        self.check((True, False), form_answers, form, (1, 0), last=-1)
        self.check(1, place_after, FORM_OF_R, (3,), last=0)
        self.check(2, place_after, FORM_OF_R, (3,), last=-1)
        self.check(0, place_after, FORM_OF_R, (3,), last=1)

    def test_numbers_of_many_digits(self):
        self.check((False, True, False), form_answers, FORM_OF_R, (HUGE + 4, HUGE + 5, -HUGE), last=HUGE)
        self.check(2, place_after, FORM_OF_R, (HUGE + 4, -HUGE, 3 * HUGE), last=HUGE)
        self.check((True, False), form_answers, form_of(U), (HUGE, -HUGE))

    def test_as_point_8_says(self):
        rng = random.Random(42)
        for form in [form_of(receiver) for receiver in random_receivers(43, 60)] + [counting_places(56)]:
            last = rng.choice((0, 0, 4, -90))
            numbers = random_numbers(rng, rng.randint(0, 30), 9, last)
            told, place = place_course(form, numbers, last)
            self.check(told, form_answers, form, numbers, last=last)
            self.check(place, place_after, form, numbers, last=last)

    def test_forms_that_no_receiver_answers_as(self):
        form = counting_places(56)
        numbers = tuple(range(1, 113))
        told = ((False,) * 55 + (True,)) * 2
        self.check(told, form_answers, form, numbers)
        self.check(30, place_after, form, numbers[:30])
        self.check(0, place_after, form, numbers)

    def test_as_the_receiver(self):
        rng = random.Random(44)
        for receiver in random_receivers(45, 60) + [R, U]:
            form = form_of(receiver)
            for last in (0, -8):
                numbers = random_numbers(rng, 20, 9, last)
                self.check(answers(receiver, numbers, last=last), form_answers, form, numbers, last=last)


if __name__ == "__main__":
    unittest.main()
