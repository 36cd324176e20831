"""Point 6: hear, answers, stand_after."""

import random
import unittest

from lateposts import hearing
from lateposts.hearing import answers, hear, stand_after
from lateposts.receivers import is_stand
from tests.checks import CallsTest
from tests.plain import all_rests, plain_answers, plain_course, stand_with
from tests.samples import HUGE, R, U, plain_hear, random_numbers, random_receivers, row

DEEDS = ("take", "keep", "leave", "drop")
FAR = (13, 14, 100, 10 ** 9, HUGE)


class HearTest(CallsTest):
    def test_interface(self):
        self.check_interface(hearing, {
            "hear": "(receiver, stand, number)",
            "answers": "(receiver, numbers, *, last=0)",
            "stand_after": "(receiver, numbers, *, last=0)",
        })

    def test_example(self):
        self.check((True, (0, 5, None)), hear, R, (1, 0, 4), 5)

    def test_deeds_with_something_kept(self):
        for last in (0, 5, -40, HUGE):
            for deed, expected in (
                ("take", (True, (1, last + 2, None))),
                ("keep", (False, (1, last, last + 2))),
                ("leave", (False, (1, last, last - 4))),
                ("drop", (False, (1, last, None))),
            ):
                receiver = ((row((2, 2), None, deed, 1),), ())
                self.check(expected, hear, receiver, (0, last, last - 4), last + 2)

    def test_deeds_with_nothing_kept(self):
        for deed, expected in (
            ("take", (True, (1, 9, None))), ("keep", (False, (1, 7, 9))),
            ("leave", (False, (1, 7, None))), ("drop", (False, (1, 7, None))),
        ):
            self.check(expected, hear, ((row((2, 2), None, deed, 1),), ()), (0, 7, None), 9)

    def test_next_is_the_state_of_the_row(self):
        for deed in DEEDS:
            for to_state in range(4):
                receiver = ((), (row((0, 3), None, deed, to_state),), (), ())
                self.assertEqual(self.call(hear, receiver, (1, 0, None), 3)[1][0], to_state)

    def test_no_row_that_is_so(self):
        for stand in ((1, 0, 4), (1, 0, None), (0, 3, None), (1, -7, -2), (1, HUGE, HUGE + 3)):
            for step in (0, -1, -5, 6, 7, 12) + FAR + tuple(-step for step in FAR):
                self.check((False, stand), hear, R, stand, stand[1] + step)
        for stand in ((3, 5, None), (3, 5, 11)):
            self.check((False, stand), hear, ((),) * 4, stand, 6)

    def test_the_first_row_that_is_so_counts(self):
        receiver = (
            (row((1, 1), (1, 1), "take", 1), row((1, 3), None, "keep", 2), row((2, 5), None, "drop", 3)), (), (), (),
        )
        self.check((True, (1, 11, None)), hear, receiver, (0, 10, 10), 11)
        self.check((False, (2, 10, 11)), hear, receiver, (0, 10, None), 11)
        self.check((False, (2, 10, 11)), hear, receiver, (0, 10, 9), 11)
        self.check((False, (2, 10, 12)), hear, receiver, (0, 10, 10), 12)
        self.check((False, (3, 10, None)), hear, receiver, (0, 10, 10), 14)
        turned = (receiver[0][::-1],) + receiver[1:]
        self.check((False, (3, 10, None)), hear, turned, (0, 10, 10), 12)
        self.check((False, (2, 10, 11)), hear, turned, (0, 10, 10), 11)

    def test_after_needs_something_kept(self):
        receiver = ((row((None, None), (None, None), "take", 0),),)
        for number in (-HUGE, -20, -1, 0, 1, 20, HUGE):
            self.check((False, (0, 0, None)), hear, receiver, (0, 0, None), number)
            for kept in range(-6, 7):
                self.check((True, (0, number, None)), hear, receiver, (0, 0, kept), number)

    def test_after_is_counted_from_what_is_kept(self):
        receiver = ((row((None, None), (1, 2), "take", 0),),)
        for kept in range(-6, 7):
            for number in range(-20, 21):
                taken = number in (kept + 1, kept + 2)
                expected = (True, (0, number, None)) if taken else (False, (0, 0, kept))
                self.check(expected, hear, receiver, (0, 0, kept), number)

    def test_ahead_counts_besides_after(self):
        receiver = ((row((3, 4), (-1, 1), "take", 0),),)
        for kept in range(-6, 7):
            for number in range(-9, 10):
                taken = 3 <= number <= 4 and -1 <= number - kept <= 1
                self.assertEqual(self.call(hear, receiver, (0, 0, kept), number)[0], taken)

    def test_numbers_far_away_and_below_last(self):
        up, down = ((row((6, None)),),), ((row((None, -6)),),)
        for step in FAR:
            self.check((True, (0, step, None)), hear, up, (0, 0, None), step)
            self.check((False, (0, 0, None)), hear, up, (0, 0, None), -step)
            self.check((True, (0, -step, None)), hear, down, (0, 0, None), -step)
            self.check((False, (0, 0, None)), hear, down, (0, 0, None), step)
        self.check((True, (0, -3, None)), hear, ((row((-3, -3)),),), (0, 0, None), -3)
        self.check((False, (0, 0, -6)), hear, ((row((-6, 6), None, "keep"),),), (0, 0, None), -6)

    def test_what_was_kept_gives_way(self):
        receiver = ((row((-6, 6), None, "keep"),),)
        for kept in range(-6, 7):
            for number in range(-6, 7):
                self.check((False, (0, 0, number)), hear, receiver, (0, 0, kept), number)

    def test_as_point_6_says(self):
        rng = random.Random(11)
        for receiver in random_receivers(12, 25):
            for rest in all_rests(receiver):
                for step in (-13, -7, -6, 13) + tuple(rng.sample(range(-14, 15), 5)):
                    stand = stand_with(rest, 0)
                    self.check(plain_hear(receiver, stand, step), hear, receiver, stand, step)

    def test_all_moved_by_one_number(self):
        rng = random.Random(13)
        for receiver in random_receivers(14, 40):
            for by in (1, -1, 1000, HUGE, -HUGE):
                rest = rng.choice(all_rests(receiver))
                step = rng.randint(-13, 13)
                taken, (state, last, kept) = self.call(hear, receiver, stand_with(rest, 0), step)
                moved = (state, last + by, None if kept is None else kept + by)
                self.check((taken, moved), hear, receiver, stand_with(rest, by), by + step)

    def test_stands_behind_are_stands(self):
        for receiver in random_receivers(15, 20):
            for rest in all_rests(receiver):
                for step in range(-13, 14, 2):
                    self.assertTrue(is_stand(receiver, hear(receiver, stand_with(rest, 3), 3 + step)[1]))


class AnswersTest(CallsTest):
    def test_examples(self):
        self.check((True, False, True, False, True, False, False), answers, R, (1, 4, 5, 9, 10, 8, 9))
        self.check((1, 1, 4), stand_after, R, (1, 4))
        self.check((True, False, False), answers, U, (7, 7, -3), last=-5)

    def test_no_numbers(self):
        for receiver in [R, U, ((),)] + random_receivers(16, 10):
            self.check((), answers, receiver, ())
            self.check((0, 0, None), stand_after, receiver, ())
            for last in (0, 7, -3, HUGE, -HUGE):
                self.check((), answers, receiver, (), last=last)
                self.check((0, last, None), stand_after, receiver, (), last=last)

    def test_last_is_0_where_it_is_left_out(self):
        for receiver in random_receivers(17, 40):
            numbers = random_numbers(random.Random(18), 8)
            self.check(answers(receiver, numbers, last=0), answers, receiver, numbers)
            self.check(stand_after(receiver, numbers, last=0), stand_after, receiver, numbers)
        self.check((True,), answers, U, (1,))
        self.check((False,), answers, U, (0,))
        self.check((False,), answers, U, (1,), last=1)
        self.check((0, 5, None), stand_after, U, (5, 3))
        self.check((0, 6, None), stand_after, U, (5, 3), last=6)

    def test_numbers_told_again(self):
        self.check((True, False, True, False), answers, U, (3, 3, 4, 4))
        again = ((row((0, 0), None, "take", 0), row((1, 2), None, "take", 0)),)
        self.check((True, True, True), answers, again, (1, 1, 1))
        self.check((False, False, True), answers, R, (4, 4, 5))
        self.check((1, 0, 4), stand_after, R, (4, 4))

    def test_numbers_of_many_digits(self):
        self.check((True, False, True, False), answers, U, (HUGE, HUGE - 1, HUGE + 1, -HUGE))
        self.check((0, HUGE + 1, None), stand_after, U, (HUGE, HUGE - 1, HUGE + 1, -HUGE))
        self.check((False, False), answers, R, (HUGE, -HUGE))
        for last in (HUGE, -HUGE):
            self.check((True, False, True), answers, R, (last + 1, last + 4, last + 5), last=last)
            self.check((1, last + 1, last + 4), stand_after, R, (last + 1, last + 4), last=last)

    def test_as_point_6_says(self):
        rng = random.Random(19)
        for receiver in random_receivers(20, 150):
            last = rng.choice((0, 0, 5, -30, 10 ** 40))
            numbers = random_numbers(rng, rng.randint(0, 30), rng.choice((3, 9, 15)), last)
            told, stand = plain_course(receiver, numbers, last)
            self.check(told, answers, receiver, numbers, last=last)
            self.check(stand, stand_after, receiver, numbers, last=last)

    def test_a_row_cut_at_any_place(self):
        rng = random.Random(21)
        for receiver in random_receivers(22, 30):
            numbers = random_numbers(rng, 12)
            told = self.call(answers, receiver, numbers)
            for at in range(len(numbers) + 1):
                self.check(told[:at], answers, receiver, numbers[:at])
                stand = self.call(stand_after, receiver, numbers[:at])
                if at < len(numbers):
                    expected = (told[at], stand_after(receiver, numbers[:at + 1]))
                    self.check(expected, hear, receiver, stand, numbers[at])

    def test_all_moved_by_one_number(self):
        rng = random.Random(23)
        for receiver in random_receivers(24, 30):
            numbers = random_numbers(rng, 10)
            for by in (1, -17, HUGE):
                moved = tuple(number + by for number in numbers)
                self.check(plain_answers(receiver, numbers), answers, receiver, moved, last=by)

    def test_many_numbers(self):
        numbers = tuple(range(1, 2001))
        self.check((True,) * 2000, answers, U, numbers)
        self.check((0, 2000, None), stand_after, U, numbers)


if __name__ == "__main__":
    unittest.main()
