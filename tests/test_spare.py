"""Points 12, 13 and 2 (d): never_counts, spare_rows, without_row, lean, mirrored."""

import random
import unittest

from lateposts import spare
from lateposts.forms import form_of
from lateposts.hearing import answers, stand_after
from lateposts.pairs import alike
from lateposts.receivers import receiver_error
from lateposts.spare import lean, mirrored, never_counts, spare_rows, without_row
from tests.checks import CallsTest
from tests.plain import cut, plain_alike, plain_lean, plain_spare, rows_told
from tests.samples import (
    HUGE, R, U, full_receiver, in_range, many_rests, plain_reached, random_numbers, random_receivers, reshaped, row,
)


def plain_never(receiver):
    """The rows that are not the first one that is so from any rest that is reached."""
    counting = set()
    for rest in plain_reached(receiver):
        for step in range(-16, 17):
            so = [at for at, (ahead, after, _, _) in enumerate(receiver[rest[0]])
                  if in_range(step, ahead) and (after is None or (len(rest) == 2 and in_range(step - rest[1], after)))]
            if so:
                counting.add((rest[0], so[0]))
    return tuple(told for told in rows_told(receiver) if told not in counting)


class NeverCountsTest(CallsTest):
    def test_interface(self):
        self.check_interface(spare, {
            "never_counts": "(receiver)",
            "spare_rows": "(receiver)",
            "without_row": "(receiver, state, row)",
            "lean": "(receiver)",
            "mirrored": "(receiver)",
        })

    def test_examples(self):
        self.check((), never_counts, R)
        self.check((), never_counts, U)
        self.check((), never_counts, ((),) * 4)

    def test_rows_written_twice(self):
        self.check(((0, 1),), never_counts, (U[0] * 2,))
        self.check(((0, 1), (0, 2), (0, 3), (0, 4), (0, 5)), never_counts, (U[0] * 6,))
        self.check(((0, 2), (1, 3)), never_counts, (R[0] + R[0][:1], R[1] + R[1][1:2]))

    def test_states_that_are_never_reached(self):
        self.check(((1, 0), (1, 1), (1, 2)), never_counts, (U[0], R[1]))
        self.check(((1, 0), (3, 0)), never_counts, ((row((1, 1), None, "take", 2),), (row((1, 1), None, "take", 3),),
                   (row((2, 2), None, "take", 0),), (row((1, 1), None, "take", 1),)))

    def test_rows_behind_wider_ones(self):
        self.check(((0, 1), (0, 2)), never_counts, ((row((1, None)), row((2, 5), None, "keep"), row((1, None))),))
        self.check((), never_counts, ((row((1, 5)), row((1, None), None, "drop"), row((0, 6), None, "drop")),))
        self.check(((0, 2),), never_counts, ((row((1, 3)), row((4, 6)), row((2, 5), None, "keep")),))

    def test_after_where_nothing_is_ever_kept(self):
        self.check(((0, 0),), never_counts, ((row((1, 1), (None, None)), row((1, 1))),))
        self.check((), never_counts, ((row((1, 1), (-1, -1)), row((1, 1)), row((2, 2), None, "keep")),))
        self.check(((0, 0),), never_counts, ((row((1, 1), (1, 1)), row((1, 1)), row((2, 2), None, "keep")),))

    def test_rows_for_numbers_far_away(self):
        up = ((row((6, 6), None, "keep", 1),), (row((None, None), (None, 6), "leave", 1), row((None, None))))
        self.check((), never_counts, up)
        up = ((row((5, 5), None, "keep", 1),), (row((None, 6), None, "leave", 1), row((None, None), (None, 1), "drop"),
              row((6, None))))
        self.check(((1, 1),), never_counts, up)
        down = ((row((-6, -6), None, "keep", 1),), (row((None, None), (-6, None), "leave", 1), row((None, None))))
        self.check((), never_counts, down)

    def test_rows_that_count_and_are_spare(self):
        self.check((), never_counts, ((row((1, 3)), row((1, 6), None, "leave", 0)),))

    def test_as_point_12_says(self):
        rng = random.Random(121)
        for receiver in random_receivers(122, 60) + [full_receiver(rng) for _ in range(15)] + [many_rests()]:
            self.check(plain_never(receiver), never_counts, receiver)


class SpareRowsTest(CallsTest):
    def test_examples(self):
        self.check(((1, 3),), spare_rows, (R[0], R[1] + (((1, 1), None, "drop", 0),)))
        self.check((), spare_rows, R)
        self.check((), spare_rows, U)
        self.check((), spare_rows, ((),))

    def test_rows_that_never_count_are_spare(self):
        for receiver in random_receivers(123, 60):
            found = self.call(spare_rows, receiver)
            self.assertEqual([told for told in never_counts(receiver) if told not in found], [])

    def test_rows_written_twice(self):
        self.check(((0, 0), (0, 1)), spare_rows, (U[0] * 2,))
        self.check(((0, 0), (0, 1), (0, 2)), spare_rows, ((row((1, 3)), row((1, 2)), row((1, 3))),))
        self.check(((0, 1),), spare_rows, ((row((1, 3)), row((1, 2))),))
        self.check(((0, 0),), spare_rows, ((row((1, 2)), row((1, 3))),))

    def test_rows_that_change_no_answer(self):
        self.check(((0, 1),), spare_rows, ((row((1, 3)), row((1, 6), None, "leave", 0)),))
        self.check(((0, 0),), spare_rows, ((row((4, 6), None, "leave", 0), row((1, 3))),))
        self.check((), spare_rows, ((row((3, 6), None, "leave", 0), row((1, 3))),))
        self.check(((0, 0), (0, 1)), spare_rows, ((row((-6, 6), None, "keep", 0), row((None, None), None, "drop", 0)),))
        self.check(((0, 1),), spare_rows, ((row((1, 2)), row((3, 3), None, "keep", 0)),))

    def test_later_rows_move_up(self):
        self.check(((0, 0), (0, 1)), spare_rows, ((row((1, 2)), row((1, 1)), row((2, 3))),))
        self.check(((0, 1),), spare_rows, ((row((1, 1), None, "leave", 0), row((1, 1)), row((2, 3))),))

    def test_alike_by_another_state(self):
        # State 2 is state 1 again, so the first row may go; then state 1 is led to no more.
        x = (row((1, 1), None, "take", 1),)
        y = (row((1, 1), None, "take", 2),)
        receiver = ((row((3, 3), None, "take", 1), row((3, 4), None, "take", 2)), x, y)
        self.check(((0, 0),), spare_rows, receiver)
        self.check(((0, 1), (1, 0)), spare_rows, ((row((3, 4), None, "take", 2), row((3, 3), None, "take", 1)), x, y))

    def test_all_rows_not_only_rising_ones(self):
        # Without its second row it is alike for rising rows alone.
        receiver = ((row((1, None)), row((-6, 0))),)
        self.check((), spare_rows, receiver)
        self.assertTrue(alike(receiver, U, rising=True))

    def test_as_point_12_says(self):
        rng = random.Random(124)
        for receiver in random_receivers(125, 40):
            self.check(plain_spare(receiver), spare_rows, receiver)
        for receiver in random_receivers(126, 30):
            other = reshaped(rng, receiver)
            self.check(plain_spare(other), spare_rows, other)
        for receiver in [full_receiver(rng) for _ in range(6)] + [many_rests()]:
            self.check(plain_spare(receiver), spare_rows, receiver)


class WithoutRowTest(CallsTest):
    def test_plain_cases(self):
        self.check(((),), without_row, U, 0, 0)
        self.check((R[0][1:], R[1]), without_row, R, 0, 0)
        self.check((R[0][:1], R[1]), without_row, R, 0, 1)
        self.check((R[0], R[1][1:]), without_row, R, 1, 0)
        self.check((R[0], (R[1][0], R[1][2])), without_row, R, 1, 1)
        self.check((R[0], R[1][:2]), without_row, R, 1, 2)

    def test_every_row(self):
        rng = random.Random(127)
        for receiver in random_receivers(128, 20) + [full_receiver(rng)]:
            for state, at in rows_told(receiver):
                self.check(cut(receiver, state, at), without_row, receiver, state, at)
                self.assertIsNone(receiver_error(without_row(receiver, state, at)))

    def test_rows_written_twice(self):
        receiver = ((row((1, 1)), row((2, 2)), row((1, 1))),)
        self.check(((row((2, 2)), row((1, 1))),), without_row, receiver, 0, 0)
        self.check(((row((1, 1)), row((2, 2))),), without_row, receiver, 0, 2)


class LeanTest(CallsTest):
    def test_examples(self):
        self.check(R, lean, R)
        self.check(R, lean, (R[0], R[1] + (((1, 1), None, "drop", 0),)))
        self.check(U, lean, U)

    def test_receivers_that_never_take(self):
        self.check(((),), lean, ((row((-6, 6), None, "keep", 0), row((None, None), None, "drop", 0)),))
        self.check(((),) * 4, lean, tuple((row((1, 1), None, "leave", (state + 1) % 4),) * 6 for state in range(4)))

    def test_the_last_spare_row_goes_first(self):
        # Either of the two rows may go.
        self.check(((row((1, 2)),),), lean, ((row((1, 2)), row((1, 2), (None, None))),))
        receiver = ((row((1, 3)), row((4, 6), None, "leave", 0), row((1, 3), None, "take", 1)),
                    (row((1, 3), None, "take", 1),))
        self.assertEqual(spare_rows(receiver), ((0, 0), (0, 1), (0, 2), (1, 0)))
        self.check(((row((1, 3)),), ()), lean, receiver)

    def test_a_row_goes_before_the_one_it_stands_behind(self):
        receiver = ((row((1, 2)), row((1, 1)), row((2, 3))),)
        self.assertEqual(spare_rows(receiver), ((0, 0), (0, 1)))
        self.check(((row((1, 2)), row((2, 3))),), lean, receiver)

    def test_looked_for_anew_each_time(self):
        x = (row((1, 1), None, "take", 1),)
        y = (row((1, 1), None, "take", 2),)
        receiver = ((row((3, 3), None, "take", 1), row((3, 4), None, "take", 2)), x, y)
        self.check(((row((3, 4), None, "take", 2),), (), y), lean, receiver)
        receiver = ((row((3, 3), None, "take", 1), row((3, 3), None, "take", 2)), x, y)
        self.check(((row((3, 3), None, "take", 1),), x, ()), lean, receiver)

    def test_as_point_12_says(self):
        rng = random.Random(129)
        for receiver in random_receivers(130, 12):
            self.check(plain_lean(receiver), lean, receiver)
        for receiver in random_receivers(131, 15):
            other = reshaped(rng, receiver)
            self.check(plain_lean(other), lean, other)
        for receiver in [full_receiver(rng) for _ in range(2)]:
            self.check(plain_lean(receiver), lean, receiver)

    def test_lean_receivers(self):
        rng = random.Random(132)
        for receiver in random_receivers(133, 60) + [full_receiver(rng) for _ in range(20)] + [many_rests()]:
            leaner = self.call(lean, receiver)
            self.assertEqual(len(leaner), len(receiver))
            self.assertIsNone(receiver_error(leaner))
            self.assertTrue(plain_alike(receiver, leaner), receiver)
            self.assertEqual(form_of(leaner), form_of(receiver))
            self.check((), spare_rows, leaner)
            self.check(leaner, lean, leaner)


class MirroredTest(CallsTest):
    def test_examples(self):
        self.check(((((None, -1), None, "take", 0),),), mirrored, U)

    def test_plain_cases(self):
        self.check((((((-2, -1), None, "take", 0)), ((-5, -3), None, "keep", 1)),
                    (((-2, -1), None, "take", 0), ((-5, -3), (-1, -1), "take", 0), ((-5, -3), None, "keep", 1))),
                   mirrored, R)
        self.check(((),) * 4, mirrored, ((),) * 4)

    def test_ranges(self):
        for limits, turned in (
            ((0, 0), (0, 0)), ((-6, 6), (-6, 6)), ((-6, -2), (2, 6)), ((1, 5), (-5, -1)), ((None, None), (None, None)),
            ((None, -3), (3, None)), ((0, None), (None, 0)), ((-1, 4), (-4, 1)),
        ):
            for deed in ("take", "leave", "drop") + (() if None in limits else ("keep",)):
                for after, turned_after in ((None, None), ((-2, 5), (-5, 2)), ((None, 6), (-6, None))):
                    receiver = ((), ((limits, after, deed, 1), row((1, 2), limits, "drop", 0)))
                    expected = ((), ((turned, turned_after, deed, 1), row((-2, -1), turned, "drop", 0)))
                    self.check(expected, mirrored, receiver)

    def test_twice_is_the_receiver_itself(self):
        rng = random.Random(134)
        for receiver in random_receivers(135, 60) + [full_receiver(rng), R, U, many_rests()]:
            turned = self.call(mirrored, receiver)
            self.assertIsNone(receiver_error(turned))
            self.check(receiver, mirrored, turned)

    def test_answers_to_turned_numbers(self):
        rng = random.Random(136)
        for receiver in random_receivers(137, 60) + [R, U, many_rests()]:
            turned = mirrored(receiver)
            for last in (0, 5, -HUGE):
                numbers = random_numbers(rng, 20, 9, last)
                back = tuple(-number for number in numbers)
                self.check(answers(receiver, numbers, last=last), answers, turned, back, last=-last)
                state, now, kept = stand_after(receiver, numbers, last=last)
                stand = (state, -now, None if kept is None else -kept)
                self.check(stand, stand_after, turned, back, last=-last)


if __name__ == "__main__":
    unittest.main()
