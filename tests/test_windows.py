"""Point 17: window, paired."""

import itertools
import random

from lateposts import windows
from lateposts.errors import BadSize
from lateposts.receivers import receiver_error
from lateposts.windows import paired, window
from tests.checks import CallsTest
from tests.plain import plain_answers
from tests.plain_late import plain_paired
from tests.samples import HUGE, R, nested, odd_values, random_numbers

NO_SIZES = [0, -1, 7, 100, HUGE, -HUGE, True, False, None, "1", (), (1,), [2], {1: 1}, nested(3, 20), R]
SHAPES = [
    (size, wide, times) for size in range(1, 6) for wide in range(size + 1, 7) for times in range(2, 5)
]


class WindowsTest(CallsTest):
    def check_raises(self, value, function, *arguments):
        with self.assertRaises(BadSize) as caught:
            function(*arguments)
        self.assertIs(caught.exception.value, value)

    def test_interface(self):
        self.check_interface(windows, {"window": "(size)", "paired": "(size, wide, times)"})

    def test_examples(self):
        self.check(((((1, 3), None, "take", 0),),), window, 3)
        self.check(R, paired, 2, 5, 2)
        self.check_raises(2, paired, 2, 2, 3)

    def test_every_window(self):
        for size in range(1, 7):
            self.check(((((1, size), None, "take", 0),),), window, size)
            self.assertIsNone(receiver_error(window(size)))

    def test_every_pairing(self):
        self.assertEqual(len(SHAPES), 45)
        for shape in SHAPES:
            self.check(plain_paired(*shape), paired, *shape)
            self.assertIsNone(receiver_error(paired(*shape)))

    def test_states_written_out(self):
        at_once, anew = ((1, 1), None, "take", 0), ((2, 6), None, "keep", 1)
        self.check(((at_once, anew), (at_once, ((2, 6), (1, 1), "take", 0), anew)), paired, 1, 6, 2)
        self.check((
            (at_once, anew), (at_once, ((2, 6), (1, 1), "keep", 2), anew), (at_once, ((2, 6), (1, 1), "keep", 3), anew),
            (at_once, ((2, 6), (1, 1), "take", 0), anew),
        ), paired, 1, 6, 4)

    def test_what_pairings_take(self):
        """Numbers up to size at once, those up to wide as the last of times ones, each one more."""
        rng = random.Random(171)
        for size, wide, times in SHAPES:
            for _ in range(6):
                numbers = random_numbers(rng, 30, 2 * wide)
                last, kept = 0, []
                told = []
                for number in numbers:
                    step = number - last
                    taken = 1 <= step <= size
                    if size < step <= wide:
                        kept = kept + [number] if kept and kept[-1] == number - 1 else [number]
                        taken = len(kept) == times
                    if taken:
                        last, kept = number, []
                    told.append(taken)
                self.assertEqual(plain_answers(paired(size, wide, times), numbers), tuple(told), (size, wide, times))

    def test_wrong_sizes_of_windows(self):
        for value in NO_SIZES + [value for value in odd_values() if value != 1 or value is True]:
            self.check_raises(value, window, value)

    def test_wrong_sizes_of_pairings(self):
        for value in NO_SIZES + [6]:
            self.check_raises(value, paired, value, 6, 2)
        for size in range(1, 6):
            for value in NO_SIZES + list(range(1, size + 1)):
                self.check_raises(value, paired, size, value, 2)
            for value in NO_SIZES + [1, 5]:
                self.check_raises(value, paired, size, 6, value)
        for value in odd_values():
            if value != 1 or value is True:
                self.check_raises(value, paired, value, value, value)
            self.check_raises(value, paired, 1, value, value)
            self.check_raises(value, paired, 1, 2, value)

    def test_the_first_wrong_size_is_told(self):
        for size, wide, times in itertools.product((0, 6, "a", 3), (3, 7, "b", 5), (1, 5, "c", 2)):
            wrong = []
            if size != 3:
                wrong.append(size)
            if wide != 5:
                wrong.append(wide)
            if times != 2:
                wrong.append(times)
            if wrong:
                self.check_raises(wrong[0], paired, size, wide, times)
            else:
                self.check(plain_paired(size, wide, times), paired, size, wide, times)
