"""Points 14, 15 and 2 (e): only_rises, falling_row, falling_holds, bears_doubles, doubled_row, doubled_holds."""

import itertools
import random

from lateposts import disorder
from lateposts.disorder import bears_doubles, doubled_holds, doubled_row, falling_holds, falling_row, only_rises
from lateposts.windows import paired, window
from tests.checks import CallsTest
from tests.plain import plain_course
from tests.plain_late import (
    plain_bears_doubles, plain_doubled_holds, plain_falling_holds, plain_falling_length,
)
from tests.samples import (
    HUGE, R, U, full_receiver, many_rests, near, nested, odd_values, random_numbers, random_receivers, row,
)

NEVER = ((),)
ALWAYS = ((row((None, None)),),)
FROM_ZERO = ((row((0, None)),),)


def samples(seed, many):
    """Receivers of all sizes, some of them near those that are usual."""
    rng = random.Random(seed)
    usual = [R, U, NEVER, ALWAYS, FROM_ZERO, many_rests(), paired(1, 6, 4)] + [window(size) for size in range(1, 7)]
    found = usual + [near(rng, receiver) for receiver in usual for _ in range(4)]
    return found + random_receivers(seed + 1, many) + [full_receiver(rng) for _ in range(many // 4)]


class DisorderTest(CallsTest):
    def check_falling(self, length, receiver):
        """That the functions of point 14 tell of a shortest row of this length, of none where it is None."""
        self.check(length is None, only_rises, receiver)
        numbers = self.call(falling_row, receiver)
        if length is None:
            self.assertIsNone(numbers)
            return
        self.assertIs(numbers.__class__, tuple)
        self.assertTrue(all(number.__class__ is int for number in numbers), numbers)
        self.assertEqual(len(numbers), length, (receiver, numbers))
        self.assertTrue(plain_falling_holds(receiver, numbers), (receiver, numbers))
        self.check(True, falling_holds, receiver, numbers)

    def check_doubles(self, bears, receiver):
        """That the functions of point 15 tell whether a receiver bears doubles, and show where it does not."""
        self.check(bears, bears_doubles, receiver)
        told = self.call(doubled_row, receiver)
        if bears:
            self.assertIsNone(told, receiver)
            return
        self.assertIs(told.__class__, tuple)
        numbers, at = told
        self.assertIs(numbers.__class__, tuple)
        self.assertTrue(all(number.__class__ is int for number in (at,) + numbers), told)
        self.assertTrue(0 <= at < len(numbers), told)
        self.assertTrue(plain_doubled_holds(receiver, numbers, at), (receiver, told))
        self.check(True, doubled_holds, receiver, told)


class FallingTest(DisorderTest):
    def test_interface(self):
        self.check_interface(disorder, {
            "only_rises": "(receiver)",
            "falling_row": "(receiver)",
            "falling_holds": "(receiver, value)",
            "bears_doubles": "(receiver)",
            "doubled_row": "(receiver)",
            "doubled_holds": "(receiver, value)",
        })

    def test_examples(self):
        self.check(True, only_rises, R)
        self.check(None, falling_row, U)
        self.check(True, falling_holds, ALWAYS, (5, 5))

    def test_where_nothing_falls(self):
        for receiver in (R, U, NEVER, ((),) * 4, paired(2, 5, 4), ((row((1, None), (0, 0)),),)):
            self.check_falling(None, receiver)

    def test_rows_of_one_number(self):
        for ahead in ((0, 0), (0, None), (-6, -6), (None, -6), (None, None), (-1, 3)):
            self.check_falling(1, ((row(ahead),),))
        for ahead in ((1, 1), (1, None), (6, 6)):
            self.check_falling(None, ((row(ahead),),))

    def test_rows_that_never_count(self):
        self.check_falling(None, ((row((None, 0), None, "drop"), row((-3, 0))),))
        self.check_falling(None, (U[0], (row((None, None)),)))
        self.check_falling(None, ((row((-6, 0), (None, None)),),))

    def test_longer_rows(self):
        self.check_falling(2, ((row((1, 1), None, "take", 1),), (row((0, 0)),)))
        self.check_falling(2, ((row((2, 2), None, "keep"), row((1, 1), (-1, -1)), row((0, 0), (-2, -2))),))
        ladder = ((row((6, 6), None, "leave", 1),), (row((6, None), None, "leave", 2),),
                  (row((None, -6), None, "leave", 3),), (row((None, 0)),))
        self.check_falling(4, ladder)
        far = ((row((-6, -6), None, "keep", 1),), (row((None, None), (-6, None), "leave", 1), row((None, None))))
        self.check_falling(2, far)

    def test_rows_that_only_numbers_far_ahead_begin(self):
        """6 ahead something is kept; 12 ahead a number is still in the range behind it, 13 ahead none is."""
        for side, within, beyond in ((6, (None, 6), 19), (-6, (-6, None), -19)):
            receiver = (
                (row((side, side), None, "keep", 1),),
                (row((None, None), within, "leave", 1), row((None, None), None, "leave", 2)),
                (row((0, 0)),),
            )
            self.check_falling(3, receiver)
            self.check(True, falling_holds, receiver, (side, beyond, 0))
            self.check(False, falling_holds, receiver, (side, 2 * side, 0))

    def test_as_point_14_says(self):
        lengths = []
        for receiver in samples(141, 160):
            lengths.append(plain_falling_length(receiver))
            self.check_falling(lengths[-1], receiver)
        for length in (None, 1, 2, 3):
            self.assertIn(length, lengths)

    def test_holds_for_rows_that_fall_at_their_end(self):
        self.check(True, falling_holds, ALWAYS, (0,))
        self.check(True, falling_holds, ALWAYS, (-1,))
        self.check(False, falling_holds, ALWAYS, (1,))
        self.check(True, falling_holds, ALWAYS, (9, 3, 12, 12))
        self.check(False, falling_holds, ALWAYS, (9, 3, 3, 4))
        self.check(True, falling_holds, ALWAYS, (HUGE, HUGE))
        self.check(True, falling_holds, ALWAYS, (HUGE, -HUGE))
        self.check(False, falling_holds, ALWAYS, (-HUGE, 1 - HUGE))
        self.check(False, falling_holds, NEVER, (0,))
        self.check(False, falling_holds, ((row((-6, 6)),),), (5, -2))
        self.check(True, falling_holds, ((row((-6, 6)),),), (5, -1))

    def test_holds_as_point_14_says(self):
        rng = random.Random(142)
        found = []
        for receiver in samples(143, 120):
            for many in (1, 2, 3, 5, 8):
                numbers = random_numbers(rng, many)
                found.append(plain_falling_holds(receiver, numbers))
                self.check(found[-1], falling_holds, receiver, numbers)
        self.assertTrue(50 < sum(found) < len(found) - 50)

    def test_holds_for_no_other_value(self):
        for value in odd_values() + [(), (True,), (0, False), (None,), ("0",), ((0,),), (0, (0,)), (0, [0]), [0],
                                     (0, None)]:
            self.check(False, falling_holds, ALWAYS, value)
        for value in (nested(0, 20), ((0,), 0), (0, "0", 0), (0,) * 1999 + (False,)):
            self.check(False, falling_holds, ALWAYS, value)
        self.check(True, falling_holds, ALWAYS, (0,) * 2000)

    def test_what_is_taken_rises(self):
        rng = random.Random(144)
        rising = [receiver for receiver in samples(145, 300) if only_rises(receiver)]
        self.assertGreater(len(rising), 30)
        for receiver in rising:
            for last in (0, -20, HUGE):
                numbers = random_numbers(rng, 30, 9, last)
                taken = [number for number, told in zip(numbers, plain_course(receiver, numbers, last)[0]) if told]
                self.assertTrue(all(a < b for a, b in zip([last] + taken, taken)), (receiver, numbers))


class DoublesTest(DisorderTest):
    def test_examples(self):
        self.check(True, bears_doubles, R)
        self.check(True, doubled_holds, FROM_ZERO, ((1,), 0))

    def test_where_doubles_never_matter(self):
        for receiver in (R, U, NEVER, ((),) * 4, window(6), ((row((1, None)), row((None, -1))),)):
            self.check_doubles(True, receiver)
        for size, wide, times in itertools.product(range(1, 6), range(2, 7), range(2, 5)):
            if size < wide:
                receiver = paired(size, wide, times)
                self.check_doubles(plain_bears_doubles(receiver), receiver)

    def test_numbers_taken_again(self):
        for receiver in (FROM_ZERO, ALWAYS, ((row((0, 0)),),), ((row((2, 2), None, "take", 1),), (row((0, 0)),))):
            self.check_doubles(False, receiver)
        self.check_doubles(False, ((row((3, 3), (0, 0)), row((3, 3), None, "keep")),))
        self.check_doubles(False, ((row((13 - 7, None), None, "leave", 1),), (row((1, None)),)))

    def test_doubles_that_show_later(self):
        count = ((row((1, 3), None, "leave", 1),), (row((1, 3), None, "leave", 2),), (row((4, 4)),))
        self.check_doubles(False, count)
        forgets = ((row((4, 4), None, "keep", 1),), (row((4, 4), None, "drop", 1), row((5, 5), (1, 1))))
        self.check_doubles(False, forgets)
        turns = ((row((1, 1), None, "take", 1),), (row((0, 0), None, "leave", 2), row((1, 2))), (row((2, 2)),))
        self.check_doubles(False, turns)
        for receiver in (count, forgets, turns):
            numbers, at = doubled_row(receiver)
            self.assertLess(at, len(numbers) - 1)

    def test_doubles_that_only_numbers_far_ahead_show(self):
        """6 ahead something is kept; 12 ahead a number is still in the range behind it, 13 ahead none is."""
        for side, within, beyond in ((6, (None, 6), 19), (-6, (-6, None), -19)):
            near_by = row((None, None), within, "leave", 1)
            receiver = (
                (row((side, side), None, "keep", 1),),
                (near_by, row((None, None), None, "leave", 2)),
                (near_by[:3] + (2,), row((None, None), None, "leave", 3)),
                (row((1, 1)),),
            )
            self.check_doubles(False, receiver)
            self.check(True, doubled_holds, receiver, ((side, beyond, 1), 1))
            self.check(False, doubled_holds, receiver, ((side, 2 * side, 1), 1))

    def test_states_that_only_look_unlike(self):
        to_and_fro = ((row((4, 4), None, "leave", 1), row((1, 2))), (row((4, 4), None, "leave", 0), row((1, 2))))
        self.check_doubles(True, to_and_fro)
        self.check_doubles(True, ((row((4, 4), None, "keep"), row((1, 1), (None, None)), row((1, 1))),))
        self.check_doubles(True, (U[0], ALWAYS[0]))

    def test_as_point_15_says(self):
        found = []
        for receiver in samples(151, 200):
            found.append(plain_bears_doubles(receiver))
            self.check_doubles(found[-1], receiver)
        self.assertTrue(20 < sum(found) < len(found) - 20)

    def test_none_of_all_short_rows_shows_the_contrary(self):
        for receiver in samples(152, 80):
            shown = any(plain_doubled_holds(receiver, numbers, at)
                        for numbers in itertools.product((-2, 1, 4, 5, 14), repeat=2) for at in range(2))
            if shown:
                self.check(False, bears_doubles, receiver)

    def test_holds_as_point_15_says(self):
        rng = random.Random(153)
        found = []
        for receiver in samples(154, 120):
            for many in (1, 2, 3, 6):
                numbers = random_numbers(rng, many)
                at = rng.randrange(many)
                found.append(plain_doubled_holds(receiver, numbers, at))
                self.check(found[-1], doubled_holds, receiver, (numbers, at))
        self.assertTrue(50 < sum(found) < len(found) - 50)

    def test_holds_for_rows_that_show_it_elsewhere(self):
        self.check(False, doubled_holds, FROM_ZERO, ((-1, 1), 0))
        self.check(True, doubled_holds, FROM_ZERO, ((-1, 1), 1))
        self.check(True, doubled_holds, FROM_ZERO, ((HUGE, 1), 0))
        self.check(False, doubled_holds, FROM_ZERO, ((HUGE, 1), 1))
        count = ((row((4, 4), None, "leave", 1),), (row((4, 4), None, "leave", 2),), (row((5, 5)),))
        self.check(True, doubled_holds, count, ((4, 5), 0))
        self.check(False, doubled_holds, count, ((4,), 0))
        self.check(False, doubled_holds, count, ((4, 4, 5), 1))
        self.check(True, doubled_holds, count, ((4, 5, 5), 0))
        self.check(False, doubled_holds, count, ((4, 3, 5), 1))

    def test_holds_for_no_other_value(self):
        for value in odd_values() + [
            (), ((1,),), ((1,), 0, 0), ((), 0), ((1,), -1), ((1,), 1), ((1,), HUGE), ((1,), False), ((1, 1), True),
            ((1,), None), ((1,), (0,)), ((1,), "0"), ([1], 0), [(1,), 0], ((True,), 0), ((1, None), 0), ((1, (1,)), 0),
            (1, 0), (0, (1,)), ("1", 0), (nested(1, 19), 0), ((1, [1]), 0), ((1, 2, "3"), 0), ((0, False), 0),
        ]:
            self.check(False, doubled_holds, FROM_ZERO, value)
