"""Point 7, with what point 6 says of how a number is answered: rest_of, step_from, reached."""

import unittest

from lateposts import rests
from lateposts.receivers import is_stand, receiver_error
from lateposts.rests import reached, rest_of, step_from
from tests.samples import (
    HUGE, R, U, image, plain_hear, plain_reached, plain_rest, random_receivers, row, same, shown,
)

STEPS = tuple(range(-16, 17)) + (-1000, 1000, -HUGE, HUGE)


def all_rests(receiver):
    gaps = [()] + [(gap,) for gap in range(-6, 7)]
    return [(state,) + gap for state in range(len(receiver)) for gap in gaps]


def stand_with(rest, last):
    return (rest[0], last, last + rest[1] if len(rest) == 2 else None)


class RestsTest(unittest.TestCase):
    def check(self, function, arguments, expected):
        before = image(arguments)
        for _ in range(2):
            got = function(*arguments)
            self.assertTrue(same(got, expected), f"{shown(arguments)}: {shown(got)} is not {shown(expected)}")
        self.assertTrue(image(arguments) == before, f"changed: {shown(arguments)}")

    def test_defined_here(self):
        for function in (rests.rest_of, rests.step_from, rests.reached):
            self.assertEqual(function.__module__, "lateposts.rests")

    def test_examples(self):
        self.check(rest_of, ((1, 1, 4),), (1, 3))
        self.check(step_from, (R, (1, 3), 4), (True, (0,)))
        self.check(reached, (R,), ((0,), (1, 3), (1, 4), (1, 5)))

    def test_rest_of(self):
        for last in (0, 1, -1, 17, HUGE, -HUGE):
            for state in range(4):
                self.check(rest_of, ((state, last, None),), (state,))
                for gap in range(-6, 7):
                    self.check(rest_of, ((state, last, last + gap),), (state, gap))

    def test_deeds_with_something_kept(self):
        for deed, expected in (
            ("take", (True, (1,))), ("keep", (False, (1, 2))), ("leave", (False, (1, -4))), ("drop", (False, (1,))),
        ):
            self.check(step_from, (((row((2, 2), None, deed, 1),), ()), (0, -4), 2), expected)

    def test_deeds_with_nothing_kept(self):
        for deed, expected in (
            ("take", (True, (1,))), ("keep", (False, (1, 2))), ("leave", (False, (1,))), ("drop", (False, (1,))),
        ):
            self.check(step_from, (((row((2, 2), None, deed, 1),), ()), (0,), 2), expected)

    def test_number_that_was_last_may_be_kept(self):
        receiver = ((row((0, 0), None, "keep", 0),),)
        self.check(step_from, (receiver, (0,), 0), (False, (0, 0)))
        self.check(step_from, (receiver, (0, 0), 1), (False, (0, 0)))

    def test_no_row_that_is_so(self):
        for rest in all_rests(((),) * 4):
            for step in STEPS:
                self.check(step_from, (((),) * 4, rest, step), (False, rest))
        self.check(step_from, (R, (1, 3), 6), (False, (1, 3)))
        self.check(step_from, (R, (0,), 0), (False, (0,)))

    def test_after_needs_something_kept(self):
        receiver = ((row((None, None), (None, None), "take", 0),),)
        for step in STEPS:
            self.check(step_from, (receiver, (0,), step), (False, (0,)))
            self.check(step_from, (receiver, (0, 0), step), (True, (0,)))
            self.check(step_from, (receiver, (0, -6), step), (True, (0,)))

    def test_after_is_counted_from_what_is_kept(self):
        receiver = ((row((None, None), (1, 2), "take", 0),),)
        for gap in range(-6, 7):
            for step in STEPS:
                taken = step in (gap + 1, gap + 2)
                self.check(step_from, (receiver, (0, gap), step), (taken, (0,) if taken else (0, gap)))

    def test_ahead_counts_besides_after(self):
        receiver = ((row((3, 3), (None, None), "take", 0),),)
        for step in STEPS:
            self.check(step_from, (receiver, (0, 0), step), (step == 3, (0,) if step == 3 else (0, 0)))

    def test_the_first_row_that_is_so_counts(self):
        receiver = (
            (row((1, 1), (1, 1), "take", 1), row((1, 3), None, "keep", 2), row((2, 5), None, "drop", 3)), (), (), (),
        )
        self.check(step_from, (receiver, (0, 0), 1), (True, (1,)))
        self.check(step_from, (receiver, (0,), 1), (False, (2, 1)))
        self.check(step_from, (receiver, (0, 0), 2), (False, (2, 2)))
        self.check(step_from, (receiver, (0, 0), 4), (False, (3,)))

    def test_rows_of_the_own_state_alone(self):
        receiver = ((row((1, 1), None, "take", 0),), (row((2, 2), None, "take", 1),))
        self.check(step_from, (receiver, (1,), 1), (False, (1,)))
        self.check(step_from, (receiver, (1,), 2), (True, (1,)))
        self.check(step_from, (receiver, (0,), 2), (False, (0,)))

    def test_steps_at_the_bounds_of_ranges(self):
        for limits in ((-6, 6), (None, 6), (-6, None), (None, None), (6, 6), (-6, -6), (0, 0)):
            low = -HUGE - 1 if limits[0] is None else limits[0]
            high = HUGE + 1 if limits[1] is None else limits[1]
            for step in STEPS:
                taken = low <= step <= high
                self.check(step_from, (((row(limits),),), (0, 2), step), (taken, (0,) if taken else (0, 2)))

    def test_steps_as_numbers_are_heard(self):
        for receiver in random_receivers(2, 40):
            for rest in all_rests(receiver):
                for last, steps in ((0, STEPS), (-37, (-13, -12, -6, 0, 1, 6, 12, 13)), (HUGE, (-1, 5))):
                    for step in steps:
                        taken, stand = plain_hear(receiver, stand_with(rest, last), last + step)
                        expected = (taken, plain_rest(stand))
                        got = step_from(receiver, rest, step)
                        if not same(got, expected):
                            self.fail(f"{receiver!r} {rest!r} {shown(step)}: {shown(got)} is not {shown(expected)}")

    def test_rests_behind_are_rests(self):
        for receiver in random_receivers(3, 40):
            self.assertIsNone(receiver_error(receiver))
            for rest in all_rests(receiver):
                for step in STEPS:
                    _, behind = step_from(receiver, rest, step)
                    self.assertTrue(is_stand(receiver, stand_with(behind, 0)))

    def test_reached_plain_cases(self):
        self.check(reached, (U,), ((0,),))
        self.check(reached, (((),),), ((0,),))
        self.check(reached, (((),) * 4,), ((0,),))
        self.check(reached, (((row(to_state=2),), (row(to_state=1),), ()),), ((0,), (2,)))

    def test_reached_is_ascending_below_0_too(self):
        receiver = ((row((-2, 1), None, "keep", 1), row((2, 2), None, "drop", 2)), (), ())
        self.check(reached, (receiver,), ((0,), (1, -2), (1, -1), (1, 0), (1, 1), (2,)))

    def test_reached_by_steps_beyond_the_bounds(self):
        # From a gap of 6, only numbers at least 13 ahead of last are 7 ahead of what is kept.
        far = ((row((6, 6), None, "keep", 1),), (row((None, None), (None, 6), "leave", 1), row((None, None), None,
               "take", 2)), ())
        self.check(reached, (far,), ((0,), (1, 6), (2,)))
        below = ((row((-6, -6), None, "keep", 1),), (row((None, None), (-6, None), "leave", 1), row((None, None), None,
                 "take", 2)), ())
        self.check(reached, (below,), ((0,), (1, -6), (2,)))

    def test_not_reached_where_an_earlier_row_stands_before(self):
        receiver = ((row((None, None), None, "take", 0), row((1, 1), None, "keep", 1)), ())
        self.check(reached, (receiver,), ((0,),))

    def test_all_rests_reached(self):
        state = (row((-6, 6), None, "keep", 1), row((None, None), None, "drop", 2))
        receiver = (state, (row((0, 6), (0, 0), "leave", 0), row((-6, -1), None, "leave", 0)) + state, ())
        expected = tuple(sorted([(2,)] + [rest for rest in all_rests(((), ())) if rest != (1,)]))
        self.check(reached, (receiver,), expected)

    def test_reached_as_numbers_are_heard(self):
        for receiver in random_receivers(4, 150):
            self.check(reached, (receiver,), plain_reached(receiver))

    def test_reached_is_ascending_each_once(self):
        for receiver in random_receivers(5, 100):
            found = reached(receiver)
            self.assertEqual(found, tuple(sorted(set(found))))
            self.assertIn((0,), found)
            self.assertEqual([rest for rest in found if rest not in all_rests(receiver)], [])


if __name__ == "__main__":
    unittest.main()
