"""Point 6, as far as it speaks of stands: is_stand."""

import unittest

from lateposts.receivers import is_stand
from tests.samples import HUGE, R, U, image, odd_values, same, shown

FOUR = ((),) * 4


class StandsTest(unittest.TestCase):
    def check(self, receiver, value, expected):
        before = image((receiver, value))
        for _ in range(2):
            got = is_stand(receiver, value)
            self.assertTrue(got is expected, f"{shown(receiver)}, {shown(value)}: {shown(got)}")
        self.assertTrue(image((receiver, value)) == before, f"changed: {shown(value)}")

    def test_example(self):
        self.check(R, (1, 0, 7), False)

    def test_nothing_kept(self):
        for last in (0, 1, -1, 7, 100, -100):
            self.check(R, (0, last, None), True)
            self.check(R, (1, last, None), True)

    def test_something_kept(self):
        for last in (0, 5, -5, 1000):
            for gap in range(-6, 7):
                self.check(R, (1, last, last + gap), True)
            for gap in (7, -7, 8, -8, 100, -100, HUGE, -HUGE):
                self.check(R, (1, last, last + gap), False)

    def test_lasts_of_any_size(self):
        for last in (HUGE, -HUGE):
            self.check(U, (0, last, None), True)
            for gap in (-6, 0, 6):
                self.check(U, (0, last, last + gap), True)
            for gap in (-7, 7):
                self.check(U, (0, last, last + gap), False)
            self.check(U, (0, last, 0), False)
            self.check(U, (0, 0, last), False)

    def test_states(self):
        for receiver in (U, R, FOUR):
            for state in range(len(receiver)):
                self.check(receiver, (state, 0, None), True)
            for state in (len(receiver), len(receiver) + 1, -1, -len(receiver), HUGE, -HUGE):
                self.check(receiver, (state, 0, None), False)
                self.check(receiver, (state, 0, 1), False)

    def test_truths_are_no_integers(self):
        for truth in (True, False):
            self.check(R, (truth, 0, None), False)
            self.check(R, (0, truth, None), False)
            self.check(R, (0, 0, truth), False)
            self.check(R, (0, truth, truth), False)

    def test_other_kinds_and_numbers_of_items(self):
        for value in ((), (0,), (0, 0), (0, 0, None, None), (0, 0, 1, 0), (0,) * 2000):
            self.check(R, value, False)
        for value in ([0, 0, None], [1, 0, 4], "000", {0: 0, 1: 0, 2: None}, R, U):
            self.check(R, value, False)

    def test_odd_values(self):
        for value in odd_values():
            self.check(R, value, False)
            self.check(R, (value, 0, None), same(value, 0) or same(value, 1))
            self.check(R, (0, value, None), isinstance(value, int) and not isinstance(value, bool))
            self.check(R, (0, 0, value), value is None or any(same(value, gap) for gap in range(-6, 7)))


if __name__ == "__main__":
    unittest.main()
