"""Points 9 and 11, and 2 (a), (b) and (c): alike, parting, parting_holds, below."""

import itertools
import random
import unittest

from lateposts import pairs
from lateposts.forms import form_of
from lateposts.pairs import alike, below, parting, parting_holds
from tests.checks import CallsTest
from tests.plain import plain_alike, plain_answers, plain_below, plain_parting_length
from tests.samples import (
    HUGE, R, U, full_receiver, many_rests, near, nested, odd_values, random_numbers, random_receivers, renumbered,
    reshaped, row,
)

# Takes late numbers besides.
LATE = ((row((1, None)), row((-6, -1))),)
NEVER = ((),)
ALWAYS = ((row((None, None)),),)


def window(size):
    return ((row((1, size)),),)


def ladder(deed):
    """Numbers with the steps 1, 2 and 3 lead to a state whose number with the step 4 has this deed."""
    return (
        (row((1, 1), None, "leave", 1),), (row((2, 2), None, "leave", 2),), (row((3, 3), None, "leave", 3),),
        (row((4, 4), None, deed, 0),),
    )


def far_ladder(deed):
    """A number 6 ahead and three at least 13 ahead lead to a number that has this deed."""
    near_by = row((None, None), (None, 6), "leave", 1)
    return (
        (row((6, 6), None, "keep", 1),),
        (near_by, row((None, None), None, "leave", 2)),
        (near_by[:3] + (2,), row((None, None), None, "leave", 3)),
        (near_by[:3] + (3,), row((None, None), None, deed, 0)),
    )


def samples(seed, many):
    """Pairs of receivers that are the same, alike in another shape, near one another, or any."""
    rng = random.Random(seed)
    found = []
    for receiver in random_receivers(seed + 1, many):
        found += [(receiver, receiver), (receiver, reshaped(rng, receiver)), (receiver, near(rng, receiver))]
    others = random_receivers(seed + 2, many)
    return found + list(zip(random_receivers(seed + 3, many), others))


class PairsTest(CallsTest):
    def check_parting(self, length, one, other, rising):
        """That parting gives a row of this length that parts, told plainly; None where there is none."""
        for first, second in ((one, other), (other, one)):
            numbers = self.call(parting, first, second, rising=rising)
            self.check(numbers is None, alike, first, second, rising=rising)
            if length is None:
                self.assertIsNone(numbers, (first, second))
                continue
            self.assertEqual((numbers.__class__, len(numbers)), (tuple, length), (first, second))
            self.assertEqual({number.__class__ for number in numbers}, {int})
            told, told_by_other = plain_answers(first, numbers), plain_answers(second, numbers)
            self.assertEqual(told[:-1], told_by_other[:-1], (first, second))
            self.assertNotEqual(told[-1], told_by_other[-1], (first, second))
            if rising:
                self.assertTrue(all(a < b for a, b in zip((0,) + numbers, numbers)), numbers)
            self.check(True, parting_holds, first, second, numbers, rising=rising)
            self.check(False, parting_holds, first, second, numbers[:-1], rising=rising)

    def test_interface(self):
        self.check_interface(pairs, {
            "alike": "(one, other, *, rising=False)",
            "parting": "(one, other, *, rising=False)",
            "parting_holds": "(one, other, value, *, rising=False)",
            "pairing_of": "(one, other)",
            "pairing_holds": "(one, other, value)",
            "below": "(one, other, *, rising=False)",
        })

    def test_examples(self):
        self.check(True, alike, R, R)
        self.check(None, parting, R, R)
        self.check_parting(1, R, U, False)
        self.check(True, parting_holds, R, U, (3,))
        self.check(False, parting_holds, R, U, (1, 2))
        self.check(True, below, R, U)
        self.check(False, below, U, R)

    def test_rising_is_false_where_it_is_left_out(self):
        for one, other in ((U, LATE), (LATE, U)):
            self.check(False, alike, one, other)
            self.check(False, alike, one, other, rising=False)
            self.check(True, alike, one, other, rising=True)
            self.check_parting(1, one, other, False)
            self.assertIn(self.call(parting, one, other)[0], range(-6, 0))
            self.check(None, parting, one, other, rising=True)
        self.check(True, below, U, LATE)
        self.check(False, below, LATE, U)
        self.check(False, below, LATE, U, rising=False)
        self.check(True, below, LATE, U, rising=True)
        self.check(True, below, U, LATE, rising=True)
        self.check(True, parting_holds, U, LATE, (-1,))
        self.check(True, parting_holds, U, LATE, (-1,), rising=False)
        self.check(False, parting_holds, U, LATE, (-1,), rising=True)

    def test_rising_rows_start_above_0(self):
        doubled = ((row((0, None)),),)
        self.check_parting(1, U, doubled, False)
        self.check_parting(None, U, doubled, True)
        self.check_parting(None, NEVER, ((row((None, 0)),),), True)
        self.check_parting(1, NEVER, ((row((None, 1)),),), True)

    def test_a_number_that_is_late_behind_one_that_is_kept(self):
        # Behind 4, the number 3 is ahead of last and still late; from state 1 nothing goes on being ahead of it.
        one = ((row((4, 4), None, "keep", 1),), (row((5, 5)),))
        other = (one[0], (row((3, 3)),) + one[1])
        self.check_parting(2, one, other, False)
        self.check_parting(None, one, other, True)
        # Where state 1 stays behind a number that is taken, a step of 3 comes again.
        one = (one[0], (row((5, 5), None, "take", 1),))
        other = (one[0], (row((3, 3)),) + one[1])
        self.check_parting(2, one, other, False)
        self.check_parting(3, one, other, True)

    def test_the_same_number_again_is_not_rising(self):
        one = ((row((2, 2), None, "leave", 1),), ())
        other = (one[0], (row((2, 2)),))
        self.check_parting(2, one, other, False)
        self.check_parting(None, one, other, True)
        self.check_parting(2, one, (one[0], (row((3, 3)),)), True)

    def test_steps_that_part_last_of_all(self):
        self.check_parting(4, ladder("take"), ladder("leave"), False)
        self.check_parting(4, ladder("take"), ladder("leave"), True)
        self.assertEqual(parting(ladder("take"), ladder("drop"), rising=True), (1, 2, 3, 4))
        self.check_parting(5, ladder("keep"), ((ladder("take")[0]), (row((2, 2), None, "leave", 2),), ladder("take")[2],
                           (row((4, 4), None, "keep", 3), row((5, 5), (1, 1)))), True)
        self.check_parting(None, ladder("leave"), NEVER, True)

    def test_numbers_far_ahead(self):
        for rising in (False, True):
            self.check_parting(4, far_ladder("take"), NEVER, rising)
            self.check_parting(None, far_ladder("drop"), NEVER, rising)
        numbers = parting(far_ladder("take"), NEVER, rising=True)
        self.assertEqual((numbers[0], numbers[1] > 12), (6, True))

    def test_numbers_that_are_not_beyond_the_one_before(self):
        # Behind a number at least 13 ahead no rising one is 12 ahead, behind one 12 ahead none is so either.
        first = (row((6, 6), None, "keep", 1),)
        behind_13 = (row((None, None), (None, 6), "leave", 1), row((None, None), None, "leave", 2))
        behind_12 = (row((None, None), (6, 6), "leave", 2),)
        for second in (behind_13, behind_12):
            for limits, length in (((6, 6), None), ((None, 6), None), ((6, None), 3), ((None, None), 3)):
                one = (first, second, (row((None, None), limits),))
                self.check_parting(3, one, NEVER, False)
                self.check_parting(length, one, NEVER, True)
                self.assertEqual(plain_parting_length(one, NEVER, True), length)
        behind_11 = (first, (row((None, None), (5, 5), "leave", 2),), (row((None, None), (6, 6)),))
        self.check_parting(3, behind_11, NEVER, True)

    def test_numbers_far_below(self):
        one = ((row((-6, -6), None, "keep", 1),), (row((None, None), (-6, None), "leave", 1), row((None, None))))
        self.check_parting(2, one, NEVER, False)
        self.assertEqual([number < -12 for number in parting(one, NEVER)], [False, True])
        self.check_parting(None, one, NEVER, True)

    def test_states_of_another_order(self):
        ladders = renumbered(ladder("take"), [0, 3, 1, 2])
        for rising in (False, True):
            self.check_parting(None, ladder("take"), ladders, rising)
            self.check_parting(4, ladder("leave"), ladders, rising)

    def test_as_point_9_says(self):
        lengths = {}
        for one, other in samples(61, 60):
            for rising in (False, True):
                length = plain_parting_length(one, other, rising)
                lengths[length] = lengths.get(length, 0) + 1
                self.check_parting(length, one, other, rising)
        self.assertTrue({None, 1, 2, 3} <= set(lengths), lengths)

    def test_as_point_11_says(self):
        told = {}
        for one, other in samples(65, 40):
            for rising in (False, True):
                for first, second in ((one, other), (other, one)):
                    expected = plain_below(first, second, rising)
                    self.check(expected, below, first, second, rising=rising)
                    told[expected, plain_alike(first, second, rising)] = True
        self.assertEqual(len(told), 3)

    def test_alike_exactly_if_forms_are_equal(self):
        for one, other in samples(69, 40):
            self.check(form_of(one) == form_of(other), alike, one, other)

    def test_what_is_alike_for_all_rows_is_so_for_rising_ones(self):
        for one, other in samples(73, 40):
            if alike(one, other):
                self.check(True, alike, one, other, rising=True)
            if below(one, other):
                self.check(True, below, one, other, rising=True)

    def test_no_shorter_row_parts(self):
        for one, other in samples(77, 8):
            for rising in (False, True):
                length = len(parting(one, other, rising=rising) or (0,) * 4)
                for numbers in itertools.product(range(-7, 8), repeat=min(2, length - 1)):
                    self.assertFalse(parting_holds(one, other, numbers, rising=rising))

    def test_receivers_of_four_states_with_six_rows(self):
        rng = random.Random(81)
        for _ in range(15):
            one = full_receiver(rng)
            other = near(rng, one)
            for rising in (False, True):
                self.check_parting(plain_parting_length(one, other, rising), one, other, rising)
        many = many_rests()
        self.check_parting(None, many, renumbered(many, [0, 2, 3, 1]), False)
        for to_state in (0, 2):
            other = many[:3] + (many[3][:3] + (many[3][3][:3] + (to_state,),),)
            for rising in (False, True):
                self.check_parting(plain_parting_length(many, other, rising), many, other, rising)

    def test_below_is_an_order(self):
        pool = [NEVER, ALWAYS, R, U, LATE, ladder("take"), far_ladder("take")] + [window(size) for size in range(1, 7)]
        pool += random_receivers(82, 8)
        pool += [near(random.Random(seed), R) for seed in range(6)]
        for rising in (False, True):
            found = {(a, b) for a in range(len(pool)) for b in range(len(pool))
                     if below(pool[a], pool[b], rising=rising)}
            for a, b, c in itertools.product(range(len(pool)), repeat=3):
                if (a, b) in found and (b, c) in found:
                    self.assertIn((a, c), found)
            for a, b in itertools.product(range(len(pool)), repeat=2):
                both = (a, b) in found and (b, a) in found
                self.assertEqual(both, alike(pool[a], pool[b], rising=rising))

    def test_below_plain_cases(self):
        for size in range(1, 6):
            self.check(True, below, window(size), window(size + 1))
            self.check(False, below, window(size + 1), window(size))
            self.check(True, below, window(size + 1), U, rising=True)
        for receiver in [R, U, LATE, ladder("take")] + random_receivers(83, 20):
            for rising in (False, True):
                self.check(True, below, NEVER, receiver, rising=rising)
                self.check(True, below, receiver, ALWAYS, rising=rising)
                self.check(True, below, receiver, receiver, rising=rising)
                self.check(alike(receiver, NEVER, rising=rising), below, receiver, NEVER, rising=rising)

    def test_neither_is_below_the_other(self):
        odd, even = ((row((1, 1)), row((3, 3))),), ((row((2, 2)), row((4, 4))),)
        for rising in (False, True):
            self.check(False, below, odd, even, rising=rising)
            self.check(False, below, even, odd, rising=rising)

    def test_only_the_first_unlike_answer_counts_for_below(self):
        # Both take 1 at first; where the other one alone takes 2, the one alone may take what comes then.
        one = ((row((1, 1), None, "take", 1),), (row((2, 2), None, "take", 1),))
        other = ((row((1, 1), None, "take", 1),), (row((1, 1), None, "take", 0), row((2, 2), None, "take", 1)))
        self.check(True, below, one, other)
        self.check(False, below, other, one)
        self.assertEqual(plain_answers(one, (1, 2, 3)), (True, False, True))
        self.assertEqual(plain_answers(other, (1, 2, 3)), (True, True, True))
        self.assertEqual(plain_answers(one, (1, 2, 4, 3)), (True, False, False, True))
        self.assertEqual(plain_answers(other, (1, 2, 4, 3)), (True, True, False, True))

    def test_unlike_answers_the_other_way_further_on(self):
        # A first unlike answer for the other one at 1, another one for the one at 2.
        one = ((row((2, 2)),),)
        other = ((row((1, 2)),),)
        self.check(True, below, one, other)
        self.assertEqual(plain_answers(one, (1, 2)), (False, True))
        late = ((row((2, 2), None, "leave", 1),), (row((3, 3)),))
        self.check(False, below, late, ((row((1, 1)),),))
        self.check(False, below, ((row((1, 1)),),), late)
        self.check(True, below, ((row((1, 1)),),), ((row((1, 1)), row((2, 2), None, "leave", 0)),))


class PartingHoldsTest(CallsTest):
    def test_rows_that_part(self):
        self.check(True, parting_holds, R, U, (3,))
        self.check(True, parting_holds, R, U, (1, 2, 5))
        self.check(True, parting_holds, U, R, (1, 2, 5), rising=True)
        self.check(True, parting_holds, U, R, (1, 1, 0, -9, 4))
        self.check(True, parting_holds, R, U, (HUGE,))
        self.check(True, parting_holds, R, U, (-HUGE, HUGE))
        self.check(True, parting_holds, R, U, (HUGE,), rising=True)
        self.check(True, parting_holds, ladder("take"), NEVER, (1, 2, 3, 4), rising=True)

    def test_rows_that_are_not_shortest(self):
        numbers = tuple(range(1, 2000)) + (2010,)
        self.check(True, parting_holds, R, U, numbers, rising=True)
        self.check(True, parting_holds, ladder("take"), NEVER, (7, 1, 1, 9, 2, 0, 3, 3, 4))
        self.check(False, parting_holds, ladder("take"), NEVER, (7, 1, 1, 9, 2, 0, 3, 3, 4), rising=True)

    def test_rows_that_part_before_or_do_not_part(self):
        self.check(False, parting_holds, R, U, (3, 9))
        self.check(False, parting_holds, R, U, (3, 3))
        self.check(False, parting_holds, R, U, (1, 2, 5, 6))
        self.check(False, parting_holds, R, U, (1, 2))
        self.check(False, parting_holds, R, U, (0,))
        self.check(False, parting_holds, R, R, (3,))
        self.check(False, parting_holds, R, U, ())
        self.check(False, parting_holds, R, U, (), rising=True)

    def test_rising_rows(self):
        self.check(True, parting_holds, U, ((row((0, None)),),), (0,))
        self.check(False, parting_holds, U, ((row((0, None)),),), (0,), rising=True)
        for numbers in ((0, 3), (-1, 3), (1, 1, 5), (2, 1, 6), (-HUGE, 3)):
            self.check(True, parting_holds, R, U, numbers)
            self.check(False, parting_holds, R, U, numbers, rising=True)

    def test_cut_rows(self):
        numbers = (1, 2, 3, 4)
        for at in range(4):
            self.check(False, parting_holds, ladder("take"), NEVER, numbers[:at])
        self.check(False, parting_holds, ladder("take"), NEVER, numbers + (5,))
        self.check(False, parting_holds, ladder("take"), NEVER, numbers[1:])

    def test_truths_for_integers(self):
        takes_1 = ((row((1, 1)),),)
        self.check(True, parting_holds, takes_1, NEVER, (1,))
        self.check(False, parting_holds, takes_1, NEVER, (True,))
        self.check(True, parting_holds, takes_1, NEVER, (0, 1))
        self.check(False, parting_holds, takes_1, NEVER, (False, 1))
        self.check(False, parting_holds, takes_1, NEVER, (True,), rising=True)

    def test_lists_and_other_kinds(self):
        for value in ([3], [1, 2, 5], "3", 3, {3: 3}, ((3,),), ([3],), (3, None), (None, 3), ("3",), (3, "3"), ((), 3)):
            for rising in (False, True):
                self.check(False, parting_holds, R, U, value, rising=rising)

    def test_odd_values(self):
        for value in odd_values() + [nested(3, 20), R, U]:
            for rising in (False, True):
                self.check(False, parting_holds, R, U, value, rising=rising)
                self.check(False, parting_holds, R, U, (3, value), rising=rising)
                number = isinstance(value, int) and not isinstance(value, bool)
                parts = number and value > 2
                self.check(parts, parting_holds, R, U, (value,), rising=rising)

    def test_random_rows(self):
        rng = random.Random(84)
        told = []
        for one, other in samples(85, 40):
            for rising in (False, True):
                numbers = random_numbers(rng, rng.randint(1, 4))
                if rising:
                    numbers = tuple(sorted(number for number in set(numbers) if number > 0)) or (3,)
                a, b = plain_answers(one, numbers), plain_answers(other, numbers)
                told.append(a[:-1] == b[:-1] and a[-1] != b[-1])
                self.check(told[-1], parting_holds, one, other, numbers, rising=rising)
        self.assertTrue(10 < sum(told) < len(told) - 10, sum(told))


if __name__ == "__main__":
    unittest.main()
