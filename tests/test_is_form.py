"""Point 8: is_form."""

import random
import unittest

from lateposts.forms import form_of, is_form
from tests.checks import CallsTest
from tests.plain import least_form, plain_least
from tests.samples import (
    HUGE, R, U, counting_places, many_rests, nested, odd_values, random_places, random_receivers, same,
)

ONE = (((0, False, 0), (None, True, 0)),)
TWO = (((0, False, 0), (5, True, 1), (None, False, 0)), ((2, False, 1), (None, True, 0)))


def with_item(value, path, item):
    """The nested tuples with another item at a path of indexes."""
    if not path:
        return item
    at = path[0]
    return value[:at] + (with_item(value[at], path[1:], item),) + value[at + 1:]


class IsFormTest(CallsTest):
    def test_examples(self):
        self.check(True, is_form, (((None, False, 0),),))
        self.check(False, is_form, (((0, False, 0), (None, False, 0)),))

    def test_forms_of_receivers(self):
        for receiver in [R, U, ((),), many_rests()] + random_receivers(51, 30):
            self.check(True, is_form, form_of(receiver))

    def test_least_ones_that_no_receiver_answers_as(self):
        for form in (
            (((-13, True, 0), (None, False, 0)),),
            (((12, False, 0), (None, True, 0)),),
            (tuple((high, high % 2 == 0, 0) for high in range(-13, 13)) + ((None, False, 0),),),
            TWO,
        ):
            self.check(True, is_form, form)
        for many in (1, 2, 3, 55, 56):
            self.check(True, is_form, counting_places(many))

    def test_random_least_ones(self):
        rng = random.Random(52)
        sizes = {}
        for _ in range(150):
            form = plain_least(random_places(rng, rng.randint(1, 9)))
            sizes[len(form)] = True
            self.check(True, is_form, form)
        self.assertGreater(len(sizes), 5)

    def test_random_places(self):
        rng = random.Random(53)
        told = []
        for _ in range(400):
            places = random_places(rng, rng.choice((1, 2, 2, 3)))
            told.append(least_form(places))
            self.check(told[-1], is_form, places)
        self.assertTrue(30 < sum(told) < 370)

    def test_too_many_places(self):
        self.check(False, is_form, counting_places(57))
        self.check(False, is_form, counting_places(200))
        self.check(False, is_form, (ONE[0],) * 57)

    def test_no_places_and_no_runs(self):
        self.check(False, is_form, ())
        self.check(False, is_form, ((),))
        self.check(False, is_form, (((0, False, 0), (None, True, 1)), ()))

    def test_a_place_twice(self):
        self.check(False, is_form, (((0, False, 0), (None, True, 1)), ((0, False, 1), (None, True, 0))))
        self.check(False, is_form, (((0, False, 0), (None, True, 1)), ((0, False, 0), (None, True, 1))))
        self.check(False, is_form, (((None, False, 1),), ((None, False, 0),)))
        # They are told apart by the fourth number at the earliest, and the last two not at all.
        four = counting_places(4)
        self.check(True, is_form, four)
        self.check(False, is_form, four[:2] + (((0, False, 0), (None, False, 3)), ((0, False, 0), (None, False, 4)),
                                               ((0, False, 0), (None, False, 4))))
        self.check(False, is_form, four[:3] + (((5, True, 0), (None, True, 4)), ((0, False, 0), (None, False, 1))))

    def test_places_that_only_far_numbers_tell_apart(self):
        for far, other in (
            (((0, False, 0), (12, True, 1), (None, False, 0)), ((0, False, 0), (12, True, 1), (None, True, 0))),
            (((-13, False, 0), (None, True, 1)), ((-13, True, 0), (None, True, 1))),
        ):
            self.check(True, is_form, (far, other))
            self.check(False, is_form, (far, far))
            self.check(False, is_form, (other, other))

    def test_a_place_that_is_never_led_to(self):
        self.check(False, is_form, ONE + (((2, False, 1), (None, True, 0)),))
        self.check(False, is_form, ONE + (((2, False, 0), (None, True, 0)),))
        self.check(False, is_form, TWO + (((None, False, 0),),))
        # The last two lead to one another alone.
        self.check(False, is_form, ONE + (((None, False, 2),), ((None, True, 1),)))

    def test_places_in_another_order(self):
        for first, second, expected in ((1, 2, True), (2, 1, False)):
            form = (((0, False, 0), (1, True, first), (2, True, second), (None, False, 0)), ((3, True, 0), (None, False,
                    1)), ((4, True, 0), (None, False, 2)))
            self.check(expected, is_form, form)

    def test_led_to_from_an_earlier_place(self):
        later = (((None, False, 1),), ((0, False, 1), (None, True, 2)), ((None, True, 0),))
        self.check(True, is_form, later)
        moved = (((None, False, 2),), ((None, True, 0),), ((0, False, 2), (None, True, 1)))
        self.check(False, is_form, moved)

    def test_a_run_cut_in_two(self):
        for form in [form_of(R), ONE, TWO, form_of(U)]:
            for at, place in enumerate(form):
                for n, (high, taken, behind) in enumerate(place):
                    low = place[n - 1][0] if n else -14
                    for middle in range(low + 1, 13 if high is None else high):
                        cut = place[:n] + ((middle, taken, behind),) + place[n:]
                        self.check(False, is_form, form[:at] + (cut,) + form[at + 1:])

    def test_highs(self):
        for high in (-13, -12, 0, 11, 12):
            self.check(True, is_form, (((high, False, 0), (None, True, 0)),))
        for high in (-14, 13, -15, 14, HUGE, -HUGE, None, True, False, "0", (), (0,), [0], {}):
            self.check(False, is_form, (((high, False, 0), (None, True, 0)),))
        for high in (-14, 13, 12, 0, True, False, HUGE, -HUGE, "", ()):
            self.check(False, is_form, (((-1, False, 0), (high, True, 0)),))
            self.check(False, is_form, (((high, False, 0),),))

    def test_highs_that_do_not_rise(self):
        for highs, expected in (
            ((1, 2), True), ((2, 2), False), ((3, 2), False), ((-13, 12), True), ((12, -13), False), ((None, 2), False),
            ((1, None), False), ((-14, 0), False), ((0, 13), False), ((False, 1), False), ((0, True), False),
        ):
            self.check(expected, is_form, (((highs[0], False, 0), (highs[1], True, 0), (None, False, 0)),))

    def test_taken(self):
        for taken in (0, 1, None, "True", (), (True,), [True], 2):
            self.check(False, is_form, (((0, False, 0), (None, taken, 0)),))
            self.check(False, is_form, (((0, taken, 0), (None, True, 0)),))
            self.check(False, is_form, (((None, taken, 0),),))

    def test_next(self):
        for behind in (-1, 1, 2, 56, HUGE, -HUGE, True, False, None, "0", (0,), [0]):
            self.check(False, is_form, (((0, False, 0), (None, True, behind)),))
            self.check(False, is_form, (((None, False, behind),),))
        for behind in (-1, -2, 2, 3, HUGE, -HUGE, True, False, None):
            self.check(False, is_form, with_item(TWO, (1, 1, 2), behind))
            self.check(False, is_form, with_item(TWO, (0, 1, 2), behind))

    def test_numbers_of_items_of_a_run(self):
        for run in ((), (None,), (None, False), (None, False, 0, 0), (None, False, 0) * 2, (0,) * 2000):
            self.check(False, is_form, ((run,),))
            self.check(False, is_form, (((0, True, 0), run),))

    def test_many_runs(self):
        runs = tuple((high, high % 2 == 0, 0) for high in range(-13, 500)) + ((None, False, 0),)
        self.check(False, is_form, (runs,))
        self.check(False, is_form, (((None, False, 0),) * 2000,))

    def test_lists_for_tuples(self):
        for form in (ONE, TWO, form_of(R)):
            self.check(True, is_form, form)
            self.check(False, is_form, list(form))
            for at, place in enumerate(form):
                self.check(False, is_form, with_item(form, (at,), list(place)))
                for n, run in enumerate(place):
                    self.check(False, is_form, with_item(form, (at, n), list(run)))

    def test_odd_values(self):
        for value in odd_values() + [R, U, nested(0, 20), nested((), 18), ((0, False, 0),)]:
            self.check(False, is_form, value)
            self.check(False, is_form, (value,))
            self.check(False, is_form, ((value,),))
            for path in ((0,), (1,), (0, 0), (1, 1)):
                self.check(False, is_form, with_item(TWO, path, value))
            high = any(same(value, number) for number in range(-13, 13))
            self.check(high, is_form, with_item(TWO, (1, 0, 0), value))
            self.check(isinstance(value, bool), is_form, with_item(TWO, (1, 0, 1), value))
            self.check(same(value, 1), is_form, with_item(TWO, (0, 1, 2), value))
            self.check(value is None, is_form, with_item(TWO, (1, 1, 0), value))


if __name__ == "__main__":
    unittest.main()
