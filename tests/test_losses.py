"""Points 16 and 2 (f): waits, longest_wait, stuck, stuck_holds, most_lost, closed."""

import itertools
import random

from lateposts import losses
from lateposts.errors import BadCount
from lateposts.losses import closed, longest_wait, most_lost, stuck, stuck_holds, waits
from lateposts.rests import reached
from lateposts.windows import paired, window
from tests.checks import CallsTest
from tests.plain import plain_course, stand_with
from tests.plain_late import (
    plain_closed, plain_longest, plain_most, plain_stuck_holds, plain_wait, plain_waits, rising_places,
)
from tests.samples import (
    HUGE, R, U, full_receiver, many_rests, near, nested, odd_values, plain_hear, random_receivers, row,
)

NEVER = ((),)
ALWAYS = ((row((None, None)),),)
# Behind one that is far ahead the next one is taken.
SECOND = ((row((1, 3)), row((4, None), None, "leave", 1)), (row((1, None)),))
# Numbers that are 13 ahead and more go through four states until one is taken.
FAR = tuple((row((6, None), None, "leave", state + 1),) for state in range(3)) + ((row((6, None)),),)


def samples(seed, many):
    """Receivers of all sizes, many of them with waits that are not endless."""
    rng = random.Random(seed)
    usual = [R, U, NEVER, ALWAYS, SECOND, FAR, many_rests(), paired(2, 5, 3)] + [window(size) for size in (1, 3, 6)]
    found = usual + [near(rng, receiver) for receiver in usual for _ in range(4)]
    for receiver in random_receivers(seed + 1, many):
        found.append(receiver)
        found.append(tuple(state[:5] + (row((rng.randint(-2, 6), None), None, "take", 0),) for state in receiver))
    return found + [full_receiver(rng) for _ in range(many // 4)]


class WaitsTest(CallsTest):
    def test_interface(self):
        self.check_interface(losses, {
            "waits": "(receiver, lost)",
            "longest_wait": "(receiver)",
            "stuck": "(receiver)",
            "stuck_holds": "(receiver, value)",
            "most_lost": "(receiver, patience)",
            "closed": "(receiver)",
        })

    def test_examples(self):
        self.check(1, waits, R, 0)
        self.check(2, waits, R, 2)
        self.check(None, waits, R, 4)
        self.check(1, longest_wait, U)
        self.check(None, longest_wait, R)

    def test_nothing_is_ever_taken(self):
        for receiver in (NEVER, ((),) * 4, ((row((None, 0)),),), ((row((1, None), None, "leave"),),)):
            for lost in (0, 1, 5, 12, 13, HUGE):
                self.check(None, waits, receiver, lost)
            self.check(None, longest_wait, receiver)

    def test_everything_is_taken(self):
        for receiver in (U, ALWAYS, ((row((1, 6)), row((6, None))),)):
            for lost in (0, 1, 5, 12, 13, HUGE):
                self.check(1, waits, receiver, lost)
            self.check(1, longest_wait, receiver)

    def test_windows(self):
        for size in range(1, 7):
            for lost in range(size):
                self.check(1, waits, window(size), lost)
            for lost in (size, size + 1, 12, 13, HUGE):
                self.check(None, waits, window(size), lost)
            self.check(None, longest_wait, window(size))

    def test_waits_longer_than_one(self):
        self.check(2, waits, SECOND, 3)
        self.check(2, waits, SECOND, HUGE)
        self.check(2, longest_wait, SECOND)
        self.check(9, waits, FAR, 0)
        self.check(5, waits, FAR, 4)
        self.check(4, waits, FAR, 5)
        self.check(4, waits, FAR, HUGE)
        self.check(9, longest_wait, FAR)
        late = ((row((6, 6)),),)
        for lost in range(6):
            self.check(6 - lost, waits, late, lost)
        self.check(None, waits, late, 6)

    def test_waits_behind_some_taken_number_alone(self):
        for ahead, wait in (((3, 3), 6), ((6, 6), 6), ((6, None), 6), ((5, 6), 6), ((0, 0), 1), ((-3, -1), 1)):
            receiver = ((row(ahead, None, "take", 1), row((1, 1))), (row((6, None)),))
            self.check(wait, waits, receiver, 0)

    def test_the_longest_wait_behind_a_number_that_is_not_taken(self):
        receiver = ((row((6, 6), None, "leave", 1), row((1, None))),
                    (row((6, 6), None, "leave", 0), row((9 - 3, None))))
        for lost in (0, 4, 6, HUGE):
            self.check(1, waits, receiver, lost)
        self.check(2, waits, receiver, 5)
        self.check(2, longest_wait, receiver)
        behind = ((row((1, 1), None, "keep", 1), row((2, None))), (row((None, None), (5, None)),))
        self.check(6, waits, behind, 0)
        self.check(6, longest_wait, behind)
        closes = ((row((2, 2), None, "leave", 1), row((1, None))), ())
        self.check(1, waits, closes, 0)
        self.check(None, waits, closes, 1)
        self.check(1, waits, closes, 2)
        self.check(None, longest_wait, closes)

    def test_waits_that_only_numbers_far_ahead_find(self):
        """6 ahead something is kept; 12 ahead a number is still in the range behind it, 13 ahead none is."""
        near_by = row((None, None), (None, 6))
        keeps = (row((6, 6), None, "keep", 1), row((1, None)))
        for further, wait in ((row((6, None), None, "leave", 2), 2), (row((6, None), None, "drop", 3), None)):
            receiver = (keeps, (near_by, further), (row((1, None)),), ())
            self.check(1, waits, receiver, 0)
            self.check(2 if wait else None, longest_wait, receiver)
            self.check(2 if wait else None, longest_wait, (keeps, (near_by, further), (row((6, None)),), ()))
        behind = (keeps, (row((None, None), (None, 6), "leave", 1), row((None, None), None, "take", 2)), ())
        self.check(None, waits, behind, 0)
        self.check(None, waits, behind, 3)
        told = stuck((keeps, (near_by,)))
        self.assertTrue(plain_stuck_holds((keeps, (near_by,)), *told), told)

    def test_as_point_16_says(self):
        found = []
        for receiver in samples(161, 90):
            for lost in (0, 1, 2, 3, 4, 5, 6, 7, 11, 12, 13, 14):
                found.append(plain_waits(receiver, lost))
                self.check(found[-1], waits, receiver, lost)
            for lost in (100, HUGE):
                self.check(found[-1], waits, receiver, lost)
        for wait in (None, 1, 2, 3, 4, 6):
            self.assertGreater(found.count(wait), 5, wait)

    def test_the_longest_wait_as_point_16_says(self):
        found = []
        for receiver in samples(162, 90):
            found.append(plain_longest(receiver))
            self.check(found[-1], longest_wait, receiver)
        for wait in (None, 1, 2, 3, 6):
            self.assertIn(wait, found)

    def test_enough_behind_all_short_rows_and_needed_behind_one(self):
        for receiver in samples(163, 30):
            longest = longest_wait(receiver)
            for lost in (0, 3, 14):
                wait = waits(receiver, lost)
                for numbers in itertools.chain.from_iterable(itertools.combinations(range(1, 9), n) for n in range(4)):
                    told, stand = plain_course(receiver, numbers)
                    now = plain_wait(receiver, stand, (numbers[-1] if numbers else 0) + lost + 1)
                    if not told or told[-1]:
                        self.assertTrue(wait is None or (now is not None and now <= wait), (receiver, numbers, lost))
                    self.assertTrue(longest is None or (now is not None and now <= longest), (receiver, numbers, lost))

    def test_wrong_counts(self):
        for value in odd_values() + [-1, -HUGE, True, False, (0,), (), nested(0, 20), (1, 2), "0", R]:
            if value.__class__ is not int or value < 0:
                with self.assertRaises(BadCount) as caught:
                    waits(R, value)
                self.assertIs(caught.exception.value, value)


class StuckTest(CallsTest):
    def check_stuck(self, receiver):
        told = self.call(stuck, receiver)
        if longest_wait(receiver) is not None:
            self.assertIsNone(told, receiver)
            return
        self.assertIs(told.__class__, tuple)
        numbers, lost = told
        self.assertIs(numbers.__class__, tuple)
        self.assertTrue(all(number.__class__ is int for number in numbers + (lost,)), told)
        self.assertTrue(all(a < b for a, b in zip((0,) + numbers, numbers)) and lost >= 0, told)
        self.assertTrue(plain_stuck_holds(receiver, numbers, lost), (receiver, told))
        self.check(True, stuck_holds, receiver, told)

    def test_examples(self):
        self.check(True, stuck_holds, R, ((), 5))

    def test_where_some_wait_is_endless(self):
        deep = ((row((6, None), None, "leave", 1),), (row((6, None), None, "leave", 2),),
                (row((6, None), None, "leave", 3),), (row((None, 6)),))
        closes = ((row((2, 2), None, "leave", 1), row((1, None))), ())
        opens = ((row((1, 12 - 6), None, "take", 1), row((6, None))), (row((1, 3)), row((6, None), None, "drop", 0)))
        late = ((row((3, 3), None, "leave", 1), row((1, None))), (row((5, 5), None, "leave", 2), row((1, None))), ())
        for receiver in (R, NEVER, ((),) * 4, deep, closes, opens, late, window(6), paired(5, 6, 4)):
            self.check_stuck(receiver)
        self.check(((3,), 1), stuck, late)
        self.check(((), 1), stuck, closes)

    def test_where_no_wait_is_endless(self):
        for receiver in (U, ALWAYS, SECOND, FAR):
            self.check(None, stuck, receiver)

    def test_as_point_16_says(self):
        for receiver in samples(164, 150):
            self.check(plain_longest(receiver) is None, lambda one: stuck(one) is not None, receiver)
            self.check_stuck(receiver)

    def test_holds_at_the_edges(self):
        for size in range(1, 7):
            self.check(False, stuck_holds, window(size), ((), size - 1))
            self.check(True, stuck_holds, window(size), ((), size))
            self.check(True, stuck_holds, window(size), ((1, 2), HUGE))
            self.check(True, stuck_holds, window(size), ((HUGE,), 0))
            self.check(True, stuck_holds, window(size), ((1, size + 2), 0))
            self.check(False, stuck_holds, window(size), ((1, size + 1), 0))
        self.check(False, stuck_holds, U, ((HUGE,), HUGE))
        self.check(False, stuck_holds, R, ((3,), 0))
        self.check(True, stuck_holds, R, ((3,), 2))

    def test_holds_as_point_16_says(self):
        rng = random.Random(165)
        found = []
        for receiver in samples(166, 120):
            for many in (0, 1, 2, 5):
                steps = [rng.choice((1, 1, 2, 3, 5, 8, 20)) for _ in range(many)]
                numbers = tuple(itertools.accumulate(steps))
                lost = rng.choice((0, 1, 2, 4, 5, 6, 12, 13, HUGE))
                found.append(plain_stuck_holds(receiver, numbers, lost))
                self.check(found[-1], stuck_holds, receiver, (numbers, lost))
        self.assertTrue(100 < sum(found) < len(found) - 100)

    def test_holds_for_no_other_value(self):
        self.check(True, stuck_holds, NEVER, ((1, 2, 3), 0))
        for value in odd_values() + [
            (), ((),), ((), 0, 0), ((), -1), ((), -HUGE), ((), None), ((), True), ((), False), ((), "0"), ((), (0,)),
            ((), [0]), ([], 0), [(), 0], ((0,), 0), ((-1,), 0), ((1, 1), 0), ((2, 1), 0), ((1, 2, 2), 0),
                                     ((1, 3, 2), 0),
            ((True,), 0), ((1, None), 0), ((1, "2"), 0), ((1, (2,)), 0), ([1], 0), (1, 0), (0, ()), (nested(1, 19), 0),
            ((False, 1), 0), ((HUGE, HUGE), 0),
        ]:
            self.check(False, stuck_holds, NEVER, value)


class MostLostTest(CallsTest):
    def test_examples(self):
        self.check(1, most_lost, R, 1)
        self.check(3, most_lost, R, 2)
        self.check("any", most_lost, U, 1)

    def test_none_and_any(self):
        for patience in (1, 2, 100, HUGE):
            self.check(None, most_lost, NEVER, patience)
            self.check("any", most_lost, ALWAYS, patience)
            self.check(None, most_lost, ((row((2, 6)), row((1, 1), None, "leave", 1)), ()), patience)

    def test_edges(self):
        for size in range(1, 7):
            for patience in (1, 2, HUGE):
                self.check(size - 1, most_lost, window(size), patience)
        for patience in range(1, 6):
            self.check(None, most_lost, ((row((6, 6)),),), patience)
            self.check(None, most_lost, ((row((6, None)),),), patience)
        self.check(5, most_lost, ((row((6, 6)),),), 6)
        self.check("any", most_lost, ((row((6, None)),),), 6)
        self.check(2, most_lost, SECOND, 1)
        self.check("any", most_lost, SECOND, 2)
        self.check(None, most_lost, FAR, 8)
        self.check("any", most_lost, FAR, 9)

    def test_far_steps(self):
        """Behind 11 lost ones the steps begin with 12, which alone is answered unlike 13 and more."""
        to_twelve = ((row((None, None), (None, 6), "take", 0), row((6, 6), None, "keep", 1)),
                     (row((None, None), (7 - 1, 6)),))
        for patience in (1, 3, 7, HUGE):
            self.check(plain_most(to_twelve, patience), most_lost, to_twelve, patience)

    def test_as_point_16_says(self):
        found = []
        for receiver in samples(167, 60):
            for patience in (1, 2, 3, 6, 70):
                found.append(plain_most(receiver, patience))
                self.check(found[-1], most_lost, receiver, patience)
            self.check(found[-1], most_lost, receiver, HUGE)
        for told in (None, "any", 0, 1, 2, 3, 4):
            self.assertIn(told, found)

    def test_wrong_counts(self):
        for value in odd_values() + [0, -1, -HUGE, True, False, (1,), (), nested(1, 20), "1", "any", R]:
            if value.__class__ is not int or value < 1:
                with self.assertRaises(BadCount) as caught:
                    most_lost(R, value)
                self.assertIs(caught.exception.value, value)


class ClosedTest(CallsTest):
    def test_rests_from_which_nothing_is_taken(self):
        self.check((), closed, R)
        self.check((), closed, U)
        self.check(((0,),), closed, NEVER)
        self.check(((0,),), closed, ((),) * 4)
        self.check(((0,), (0, 1), (0, 2)), closed, ((row((1, 2), None, "keep"),),))
        self.check(((1,),), closed, ((row((1, None), None, "take", 1),), ()))
        self.check((), closed, ((row((-6, -6)),),))

    def test_numbers_may_fall(self):
        self.check((), closed, ((row((1, None), None, "leave", 1),), (row((None, 0)),)))
        self.check((), closed, ((row((1, None), None, "leave", 1),), (row((None, -6), None, "leave", 0), row((0, 0)))))

    def test_rests_that_a_state_closes_for_some_kept_numbers(self):
        receiver = ((row((1, 6), None, "keep", 1),), (row((None, None), (2, 3)), row((None, None), None, "leave", 1)))
        self.check((), closed, receiver)
        receiver = ((row((5, 6), None, "keep", 1),), (row((3, 6), (-2, -2)), row((None, None), None, "leave", 1)))
        self.check((), closed, receiver)
        receiver = ((row((4, 6), None, "keep", 1),), (row((3, 6), (-2, -2)), row((None, None), None, "leave", 1)))
        self.check(((1, 4),), closed, receiver)

    def test_as_point_16_says(self):
        found = []
        for receiver in samples(168, 150):
            found.append(plain_closed(receiver))
            self.check(found[-1], closed, receiver)
            for rest in found[-1]:
                self.assertIn(rest, reached(receiver))
        self.assertTrue(10 < found.count(()) < len(found) - 10)

    def test_nothing_is_taken_behind_a_closed_rest(self):
        rng = random.Random(169)
        for receiver in samples(170, 60):
            for rest in closed(receiver):
                stand = stand_with(rest)
                for _ in range(40):
                    taken, stand = plain_hear(receiver, stand, rng.randint(-20, 20))
                    self.assertFalse(taken)

    def test_all_that_is_stuck_for_good_is_told(self):
        """A rest of a rising row from which all is closed is stuck, whatever is lost."""
        for receiver in samples(171, 60):
            ends = {rest for rest, _ in rising_places(receiver)}
            if ends & set(closed(receiver)):
                self.assertIsNone(longest_wait(receiver))
