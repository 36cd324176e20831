"""Points 18 and 2 (g): is_log, fits, lasts_now, sure_of, fitting."""

import random

from lateposts import logs
from lateposts.errors import NoFit
from lateposts.logs import fits, fitting, is_log, lasts_now, sure_of
from lateposts.windows import paired, window
from tests.checks import CallsTest
from tests.plain import plain_answers, plain_course
from tests.plain_late import around, plain_fits_from, plain_lasts, wide_ranges, within
from tests.samples import (
    HUGE, R, U, full_receiver, many_rests, near, nested, odd_values, random_numbers, random_receivers, row,
)

NEVER = ((),)
ALWAYS = ((row((None, None)),),)


def samples(seed, many):
    rng = random.Random(seed)
    usual = [R, U, NEVER, ALWAYS, many_rests(), paired(1, 6, 4), paired(3, 6, 3), window(1), window(6)]
    found = usual + [near(rng, receiver) for receiver in usual for _ in range(4)]
    return found + random_receivers(seed + 1, many) + [full_receiver(rng) for _ in range(many // 4)]


def random_log(rng, receiver, many):
    """A log of a receiver from some number on, now and then with an answer turned round."""
    last = rng.randint(-30, 30)
    numbers = random_numbers(rng, many, 9, last)
    told = list(plain_answers(receiver, numbers, last))
    if many and rng.random() < 0.3:
        at = rng.randrange(many)
        told[at] = not told[at]
    return tuple(zip(numbers, told))


def log_samples(seed, many, lengths=(0, 1, 1, 2, 2, 3, 4, 6, 10)):
    rng = random.Random(seed)
    return [(receiver, random_log(rng, receiver, length)) for receiver in samples(seed + 1, many) for length in lengths]


def moved(log, by):
    return tuple((number + by, taken) for number, taken in log)


def moved_ranges(ranges, by):
    return tuple(tuple(None if bound is None else bound + by for bound in limits) for limits in ranges)


class IsLogTest(CallsTest):
    def test_interface(self):
        self.check_interface(logs, {
            "is_log": "(value)",
            "fits": "(receiver, log)",
            "lasts_now": "(receiver, log)",
            "sure_of": "(receiver, log, number)",
            "fitting": "(receivers, log)",
        })

    def test_logs(self):
        for value in ((), ((0, True),), ((-HUGE, False), (HUGE, True)), ((7, False), (7, False), (3, True))):
            self.check(True, is_log, value)

    def test_how_many_pairs(self):
        for many in (0, 1, 2, 39, 40):
            self.check(True, is_log, ((5, False),) * many)
        for many in (41, 42, 666):
            self.check(False, is_log, ((5, False),) * many)

    def test_no_other_value(self):
        for value in odd_values() + [
            (7, True), ((7,),), ((7, True, 0),), ((True, 7),), ((True, True),), ((False, False),), ((7, 1),), ((7, 0),),
            ((7, None),), ((7, "+"),), ((None, True),), (("7", True),), (((7,), True),), ((7, (True,)),),
                                     (((7, True),),),
            [(7, True)], ([7, True],), ((7, True), [8, True]), ((7, True), ()), ((7, True), None), ((7, True), 8),
            "7+", nested(7, 20), R, U, {7: True}, ({7: True},), ((7, True),) * 39 + ((7, 1),),
        ]:
            if value != ():
                self.check(False, is_log, value)


class RangesTest(CallsTest):
    def check_ranges(self, expected, told, log):
        """That ranges are told as they are to be, and tell just these of the numbers around a log."""
        low, high = around(log)[0], around(log)[-1]
        self.assertIs(told.__class__, tuple)
        for limits in told:
            self.assertIs(limits.__class__, tuple)
            self.assertEqual(len(limits), 2)
            self.assertTrue(all(bound is None or bound.__class__ is int for bound in limits), told)
        self.assertEqual(told, wide_ranges(expected, low, high), log)


class FitsTest(RangesTest):
    def test_examples(self):
        self.check(((5, 6),), fits, R, ((7, True),))
        self.check(((3, 4), (7, 7)), fits, R, ((7, False), (8, True)))
        self.check(((4, None),), fits, U, ((4, False),))
        self.check(((None, None),), fits, U, ())

    def test_logs_without_pairs(self):
        for receiver in samples(181, 20):
            self.check(((None, None),), fits, receiver, ())

    def test_logs_of_one_pair(self):
        for size in range(1, 7):
            self.check(((-size, -1),), fits, window(size), ((0, True),))
            self.check(((None, -size - 1), (0, None)), fits, window(size), ((0, False),))
        self.check(((None, None),), fits, ALWAYS, ((7, True),))
        self.check((), fits, ALWAYS, ((7, False),))
        self.check((), fits, NEVER, ((7, True),))
        self.check(((None, None),), fits, NEVER, ((7, False),))
        self.check(((None, 6),), fits, U, ((7, True),))
        self.check(((1, 1), (13, 13)), fits, ((row((-6, -6)), row((6, 6))),), ((7, True),))
        self.check(((None, 0), (2, 12), (14, None)), fits, ((row((-6, -6)), row((6, 6))),), ((7, False),))

    def test_ranges_beside_one_another_are_one(self):
        in_two = ((row((1, 2)), row((3, 4)), row((5, 6))),)
        self.check(((1, 6),), fits, in_two, ((7, True),))
        self.check(((None, None),), fits, ((row((1, None)), row((None, 0))),), ((7, True),))
        self.check(((None, None),), fits, ((row((1, 3), None, "leave", 0), row((None, 5), None, "drop")),),
                   ((7, False),))

    def test_numbers_of_any_size(self):
        log = ((7, False), (8, True))
        for by in (HUGE, -HUGE, 10 ** 30):
            self.check(moved_ranges(((3, 4), (7, 7)), by), fits, R, moved(log, by))
        self.check(((HUGE, None),), fits, U, ((0, False), (HUGE, False)))
        self.check(((0, HUGE - 1),), fits, U, ((0, False), (HUGE, True)))
        self.check(((None, -HUGE - 7), (-HUGE, -7), (0, HUGE - 7), (HUGE, None)), fits, window(6),
                   ((0, False), (HUGE, False), (-HUGE, False)))

    def test_logs_of_many_pairs(self):
        far = tuple((20 * at, False) for at in range(40))
        ranges = [(None, -7)] + [(20 * at, 20 * at + 13) for at in range(39)] + [(780, None)]
        self.check(tuple(ranges), fits, window(6), far)
        for many in (40, 41):
            self.check(((0, 0),), fits, window(1), tuple((at, at > 0) for at in range(many)))
            self.check(((1, 1),), fits, window(1), tuple((at, at > 1) for at in range(many)))
            self.check((), fits, window(1), tuple((at, 0 < at < many - 1) for at in range(many)))
            self.check(((None, None),), fits, NEVER, ((5, False),) * many)
            self.check(((None, None),), fits, ALWAYS, ((5, True),) * many)

    def test_what_is_kept_tells_of_last(self):
        keeps = ((row((3, 5), None, "keep", 1), row((6, 6))), (row((None, None), (2, 2)),))
        self.check(((5, 7),), fits, keeps, ((10, False), (12, True)))
        self.check(((None, 3), (5, None)), fits, keeps, ((10, False), (13, False)))

    def test_as_point_18_says(self):
        many = {}
        for receiver, log in log_samples(182, 120):
            told = self.call(fits, receiver, log)
            self.check_ranges(plain_lasts(receiver, log), told, log)
            many[len(told)] = many.get(len(told), 0) + 1
        for length in range(4):
            self.assertGreater(many.get(length, 0), 20, many)

    def test_long_logs_as_point_18_says(self):
        for receiver, log in log_samples(183, 12, (30, 40, 41)):
            self.check_ranges(plain_lasts(receiver, log), self.call(fits, receiver, log), log)

    def test_at_the_ends_of_ranges_and_beside_them(self):
        for receiver, log in log_samples(184, 40, (1, 2, 5)):
            for low, high in fits(receiver, log):
                for bound, inward in ((low, 1), (high, -1)):
                    if bound is not None:
                        self.assertTrue(plain_fits_from(receiver, log, bound))
                        self.assertFalse(plain_fits_from(receiver, log, bound - inward))
                if low is None:
                    self.assertTrue(plain_fits_from(receiver, log, -HUGE))
                if high is None:
                    self.assertTrue(plain_fits_from(receiver, log, HUGE))

    def test_from_numbers_of_all_kinds(self):
        rng = random.Random(185)
        for receiver, log in log_samples(186, 40, (1, 2, 4)):
            told = fits(receiver, log)
            for last in [rng.randint(-60, 60) for _ in range(20)] + [HUGE, -HUGE]:
                self.assertEqual(within(last, told), plain_fits_from(receiver, log, last), (receiver, log, last))


class LastsNowTest(RangesTest):
    def test_examples(self):
        self.check(((8, 8),), lasts_now, R, ((7, False), (8, True)))

    def test_edges(self):
        self.check(((None, None),), lasts_now, R, ())
        self.check((), lasts_now, ALWAYS, ((7, False),))
        self.check((), lasts_now, NEVER, ((7, False), (8, True)))
        self.check((), lasts_now, U, ((7, True), (8, False)))
        self.check(((4, None),), lasts_now, U, ((4, False),))
        self.check(((9, 9),), lasts_now, U, ((4, False), (9, True), (3, False), (9, False)))
        self.check(((3, 3),), lasts_now, ALWAYS, ((4, True), (9, True), (3, True)))
        self.check(((HUGE, HUGE),), lasts_now, U, ((4, False), (HUGE, True)))
        self.check(((None, -7), (0, None)), lasts_now, window(6), ((0, False),))

    def test_as_point_18_says(self):
        for receiver, log in log_samples(187, 60):
            numbers = [number for number, _ in log]
            lasts = {plain_course(receiver, numbers, last)[1][1] for last in plain_lasts(receiver, log)}
            told = self.call(lasts_now, receiver, log)
            self.check_ranges(sorted(lasts), told, log)


class SureOfTest(CallsTest):
    def test_examples(self):
        self.check(True, sure_of, R, ((7, False), (8, True)), 9)
        self.check(False, sure_of, R, ((7, True),), 6)
        self.check(None, sure_of, U, (), 0)

    def test_edges(self):
        self.check(True, sure_of, ALWAYS, (), 7)
        self.check(False, sure_of, NEVER, (), 7)
        self.check(True, sure_of, U, ((7, True),), 8)
        self.check(False, sure_of, U, ((7, True),), 7)
        self.check(False, sure_of, U, ((7, False),), 7)
        self.check(None, sure_of, U, ((7, False),), 8)
        self.check(True, sure_of, U, ((-HUGE, True),), HUGE)
        self.check(None, sure_of, U, ((-HUGE, False),), HUGE)

    def test_a_log_that_is_full(self):
        for many in (39, 40):
            log = tuple((at, True) for at in range(many))
            self.check(True, sure_of, window(1), log, many)
            self.check(False, sure_of, window(1), log, many + 1)
            self.check(False, sure_of, window(1), log, many - 1)
            self.check(None, sure_of, U, ((0, False),) * many, 1)

    def test_logs_that_fit_from_nowhere(self):
        for receiver, log in ((ALWAYS, ((7, False),)), (NEVER, ((7, True),)), (R, ((7, True), (7, True))),
                              (window(1), tuple((at, 0 < at < 39) for at in range(40)))):
            for number in (0, 7, 8, HUGE):
                with self.assertRaises(NoFit):
                    sure_of(receiver, log, number)

    def test_as_point_18_says(self):
        told = []
        for receiver, log in log_samples(188, 60, (0, 1, 2, 3, 5)):
            for number in ([number for number, _ in log] or [0])[-1:] * 2 + [log[0][0] + 4 if log else 40]:
                number += len(told) % 5 - 1
                wider = log + ((number, True),)
                answers = {plain_answers(receiver, [heard for heard, _ in wider], last)[-1]
                           for last in around(wider) if plain_fits_from(receiver, log, last)}
                if not answers:
                    with self.assertRaises(NoFit):
                        sure_of(receiver, log, number)
                    told.append("no fit")
                    continue
                told.append(None if len(answers) == 2 else answers.pop())
                self.check(told[-1], sure_of, receiver, log, number)
        for answer in (True, False, None, "no fit"):
            self.assertGreater(len([one for one in told if one is answer or one == answer]), 20, answer)


class FittingTest(CallsTest):
    def test_examples(self):
        self.check((0, 1, 2), fitting, (R, U, window(1)), ((3, False), (4, True)))

    def test_edges(self):
        self.check((), fitting, (), ())
        self.check((), fitting, (), ((7, True),))
        self.check((), fitting, (NEVER, NEVER), ((7, True),))
        self.check((0, 1, 2, 3), fitting, (NEVER, ALWAYS, R, NEVER), ())
        self.check((1, 3), fitting, (NEVER, ALWAYS, NEVER, U), ((7, True), (9, True)))
        self.check((0, 2), fitting, (window(6), window(1), window(2)), ((HUGE, True), (HUGE + 2, True)))

    def test_as_point_18_says(self):
        rng = random.Random(189)
        receivers = samples(190, 30)
        found = []
        for _ in range(60):
            some = tuple(rng.choice(receivers) for _ in range(rng.randint(0, 9)))
            log = random_log(rng, rng.choice(receivers), rng.choice((0, 1, 2, 3, 5)))
            found.append(tuple(at for at, one in enumerate(some) if plain_lasts(one, log)))
            self.check(found[-1], fitting, some, log)
        self.assertGreater(len(set(found)), 15)
