"""Points 10 and 2 (b): pairing_of, pairing_holds."""

import random
import unittest

from lateposts.pairs import alike, pairing_holds, pairing_of
from tests.checks import CallsTest
from tests.plain import all_rests, plain_alike, plain_pairing_holds, plain_pairs, plain_step
from tests.samples import (
    R, U, full_receiver, many_rests, near, nested, odd_values, plain_reached, random_receivers, renumbered, reshaped,
    row, same,
)

BEGIN = ((0,), (0,))
NEVER = ((),)
PAIRS_OF_R = tuple((rest, rest) for rest in ((0,), (1, 3), (1, 4), (1, 5)))


def alike_receivers(seed, many):
    rng = random.Random(seed)
    return [(receiver, reshaped(rng, receiver)) for receiver in random_receivers(seed + 1, many)]


def closed_pairs(one, other, pair):
    """The pairs that a pair leads to, itself among them, or None where an answer is unlike on the way."""
    found = {pair}
    waiting = [pair]
    while waiting:
        rest, other_rest = waiting.pop()
        for step in range(-14, 15):
            taken, to = plain_step(one, rest, step)
            other_taken, other_to = plain_step(other, other_rest, step)
            if taken != other_taken:
                return None
            if (to, other_to) not in found:
                found.add((to, other_to))
                waiting.append((to, other_to))
    return found


class PairingOfTest(CallsTest):
    def test_examples(self):
        self.check((BEGIN,), pairing_of, U, U)

    def test_plain_cases(self):
        self.check(PAIRS_OF_R, pairing_of, R, R)
        self.check(None, pairing_of, R, U)
        self.check(None, pairing_of, U, R)
        self.check((BEGIN,), pairing_of, NEVER, ((),) * 4)
        keeps = ((row((-1, 0), None, "keep", 1),), ())
        self.check((BEGIN, ((0,), (1, -1)), ((0,), (1, 0))), pairing_of, NEVER, keeps)
        self.check((BEGIN, ((1, -1), (0,)), ((1, 0), (0,))), pairing_of, keeps, NEVER)
        moves = ((row((5, 5), None, "leave", 1),), (row((2, 2), None, "leave", 2),), ())
        self.check((BEGIN, ((0,), (1,)), ((0,), (2,))), pairing_of, NEVER, moves)

    def test_states_of_another_order(self):
        turned = renumbered(R + ((), ()), [0, 3, 1, 2])
        expected = tuple((rest, (rest[0] * 3,) + rest[1:]) for rest in ((0,), (1, 3), (1, 4), (1, 5)))
        self.check(expected, pairing_of, R, turned)
        self.check(tuple((b, a) for a, b in expected), pairing_of, turned, R)

    def test_only_what_comes_behind_some_row(self):
        for receiver in [R, U, many_rests()] + random_receivers(101, 20):
            self.check(tuple((rest, rest) for rest in plain_reached(receiver)), pairing_of, receiver, receiver)

    def test_as_point_10_says(self):
        many = 0
        for one, other in alike_receivers(103, 60):
            expected = plain_pairs(one, other)
            many += expected != tuple((rest, rest) for rest in plain_reached(one))
            self.check(expected, pairing_of, one, other)
            self.check(plain_pairs(other, one), pairing_of, other, one)
            self.check(True, pairing_holds, one, other, expected)
        self.assertGreater(many, 10)

    def test_none_exactly_if_not_alike(self):
        rng = random.Random(104)
        for receiver in random_receivers(105, 60):
            other = near(rng, receiver)
            found = self.call(pairing_of, receiver, other)
            self.assertEqual(found is not None, plain_alike(receiver, other), (receiver, other))
            self.assertEqual(found is not None, alike(receiver, other))
            if found is not None:
                self.assertEqual(found, plain_pairs(receiver, other))

    def test_large_ones(self):
        rng = random.Random(106)
        keeps = tuple(
            (row((-6, 6), (state - 2, 1), "keep", (state + 1) % 4), row((-6, 6), (2, 3), "leave", (state + 2) % 4),
             row((-6, 6), None, "keep", state), row((None, None), None, "drop", (state + 1) % 4))
            for state in range(4)
        )
        found = self.call(pairing_of, keeps, renumbered(keeps, [0, 3, 1, 2]))
        self.assertGreater(len(found), 50)
        turned = tuple(state[::-1] for state in keeps)
        found = self.call(pairing_of, keeps, turned)
        self.assertEqual(found, plain_pairs(keeps, turned))
        self.assertGreater(len(found), 150)
        self.check(True, pairing_holds, keeps, turned, found)
        self.check(False, pairing_holds, keeps, turned, found[:-1])
        for _ in range(8):
            receiver = full_receiver(rng)
            self.assertEqual(self.call(pairing_of, receiver, receiver), plain_pairs(receiver, receiver))


class PairingHoldsTest(CallsTest):
    def test_examples(self):
        self.check(True, pairing_holds, U, U, (BEGIN, ((0, 2), (0, 5))))

    def test_the_least_ones(self):
        self.check(True, pairing_holds, U, U, (BEGIN,))
        self.check(True, pairing_holds, R, R, PAIRS_OF_R)
        self.check(False, pairing_holds, R, U, (BEGIN,))
        self.check(False, pairing_holds, R, U, PAIRS_OF_R)
        for one, other in alike_receivers(107, 20):
            self.check(True, pairing_holds, one, other, pairing_of(one, other))

    def test_longer_ones(self):
        rng = random.Random(108)
        many = 0
        for one, other in alike_receivers(109, 40):
            found = set(pairing_of(one, other))
            for _ in range(12):
                pair = (rng.choice(all_rests(one)), rng.choice(all_rests(other)))
                more = closed_pairs(one, other, pair)
                if more is not None:
                    many += pair not in found
                    found |= more
                    self.check(True, pairing_holds, one, other, tuple(sorted(found)))
                elif pair not in found:
                    self.check(False, pairing_holds, one, other, tuple(sorted(found | {pair})))
        self.assertGreater(many, 30)

    def test_all_pairs_of_receivers_that_never_take(self):
        keeps = ((row((-6, 6), None, "keep", 1),), (row((None, None), None, "drop", 2),), ())
        pairs = tuple((a, b) for a in all_rests(keeps) for b in all_rests(((),) * 2))
        self.check(True, pairing_holds, keeps, ((),) * 2, pairs)
        self.check(False, pairing_holds, keeps, ((),) * 2, pairs[1:])
        self.check(False, pairing_holds, keeps, NEVER, pairs)

    def test_rests_that_no_row_reaches(self):
        unreached = U + ((row((3, 3)),), (row((3, 3), None, "take", 2), row((4, 4), None, "keep", 0)))
        self.check(True, pairing_holds, unreached, unreached, (BEGIN, ((1,), (1,))))
        self.check(True, pairing_holds, unreached, unreached, (BEGIN, ((1,), (1, 6)), ((1, -6), (1, 2))))
        self.check(False, pairing_holds, unreached, unreached, (BEGIN, ((0,), (1,))))
        self.check(False, pairing_holds, unreached, unreached, (BEGIN, ((2,), (2,))))
        self.check(True, pairing_holds, unreached, unreached, (BEGIN, ((0, 4), (0, 4)), ((2,), (2,))))

    def test_cut_ones(self):
        for one, other in [(R, R)] + alike_receivers(110, 15):
            pairs = pairing_of(one, other)
            for at in range(len(pairs)):
                self.check(False, pairing_holds, one, other, pairs[:at] + pairs[at + 1:])
        self.check(False, pairing_holds, U, U, ())
        self.check(False, pairing_holds, U, U, (((0, 2), (0, 5)),))

    def test_unlike_answers_far_away(self):
        # Only steps from 13 on are answered unlike, or only those from -13 down.
        for limits, gap in (((None, 6), 6), ((-6, None), -6)):
            far = (row((None, None), limits, "leave", 1), row((None, None)))
            one, other = (U[0], far), (U[0], far[:1])
            pairs = (BEGIN, ((1, gap), (1, gap)))
            self.check(True, pairing_holds, one, one, pairs)
            self.check(True, pairing_holds, other, other, pairs)
            self.check(False, pairing_holds, one, other, pairs)
            self.check(False, pairing_holds, other, one, pairs)

    def test_pairs_twice_or_in_another_order(self):
        self.check(False, pairing_holds, U, U, (BEGIN, BEGIN))
        self.check(False, pairing_holds, R, R, PAIRS_OF_R + PAIRS_OF_R[-1:])
        self.check(False, pairing_holds, R, R, PAIRS_OF_R[::-1])
        self.check(False, pairing_holds, R, R, PAIRS_OF_R[1:] + PAIRS_OF_R[:1])
        self.check(False, pairing_holds, R, R, PAIRS_OF_R[:2] + PAIRS_OF_R[3:] + PAIRS_OF_R[2:3])
        self.check(True, pairing_holds, U, U, (BEGIN, ((0,), (0, -6)), ((0,), (0, -1)), ((0, -1), (0,))))
        self.check(False, pairing_holds, U, U, (BEGIN, ((0,), (0, -1)), ((0,), (0, -6)), ((0, -1), (0,))))
        self.check(False, pairing_holds, U, U, (BEGIN, ((0, -1), (0,)), ((0,), (0, -6))))

    def test_rests(self):
        for gap in range(-6, 7):
            self.check(True, pairing_holds, U, U, (BEGIN, ((0, gap), (0,))))
            self.check(True, pairing_holds, U, U, (BEGIN, ((0, gap), (0, gap))))
        for rest in ((1,), (-1,), (0, 7), (0, -7), (0, 10 ** 50), (0, None), (0, 0, 0), (), (None,), ("0",), 0, None,
                     (1, 0), (0, "0"), (0, (0,)), ((0,),), [0], (0, [0]), {0: 0}, "0"):
            self.check(False, pairing_holds, U, U, (BEGIN, (rest, (0,))))
            self.check(False, pairing_holds, U, U, (BEGIN, ((0,), rest)))
            self.check(False, pairing_holds, U, U, ((rest, (0,)), BEGIN))
        for pair in ((), ((0,),), ((0,), (0, 1), (0,)), ((0,), (0, 1), ()), ((0,), (0, 1)) * 2):
            self.check(False, pairing_holds, U, U, (BEGIN, pair))
        both = U + U
        self.check(True, pairing_holds, both, U, (BEGIN, ((0, 6), (0, 5))))
        self.check(False, pairing_holds, U, both, (BEGIN, ((1, 0), (0,))))

    def test_truths_for_integers(self):
        self.check(False, pairing_holds, U, U, (((False,), (0,)),))
        self.check(False, pairing_holds, U, U, (((0,), (False,)),))
        self.check(False, pairing_holds, U, U, (BEGIN, ((0, True), (0,))))
        self.check(False, pairing_holds, U, U, (BEGIN, ((0,), (0, False))))
        states = U + U
        self.check(False, pairing_holds, states, states, (BEGIN, ((True,), (0,))))
        self.check(False, pairing_holds, R, R, PAIRS_OF_R[:1] + (((True, 3), (1, 3)),) + PAIRS_OF_R[2:])

    def test_lists_for_tuples(self):
        self.check(True, pairing_holds, R, R, PAIRS_OF_R)
        self.check(False, pairing_holds, R, R, list(PAIRS_OF_R))
        for at, pair in enumerate(PAIRS_OF_R):
            for wrong in (list(pair), (list(pair[0]), pair[1]), (pair[0], list(pair[1])), pair[:1], pair + pair[:1]):
                self.check(False, pairing_holds, R, R, PAIRS_OF_R[:at] + (wrong,) + PAIRS_OF_R[at + 1:])
                self.check(False, pairing_holds, R, R, PAIRS_OF_R[:at] + (wrong,) + PAIRS_OF_R[at:])

    def test_odd_values(self):
        for value in odd_values() + [R, U, nested(0, 20), nested((0,), 18), BEGIN, ((), ()), ((0,),) * 1000]:
            for one, other in ((U, U), (R, R), (R, U)):
                self.check(False, pairing_holds, one, other, value)
                self.check(False, pairing_holds, one, other, (BEGIN, (value, value)))
                self.check(False, pairing_holds, one, other, ((value, (0,)), BEGIN))
            gap = any(same(value, number) for number in range(-6, 7))
            self.check(gap, pairing_holds, U, U, (BEGIN, ((0, value), (0,))))

    def test_random_ones(self):
        rng = random.Random(111)
        for one, other in alike_receivers(112, 60):
            pairs = set(pairing_of(one, other))
            for _ in range(rng.randint(0, 3)):
                if pairs and rng.random() < 0.3:
                    pairs.discard(rng.choice(sorted(pairs)))
                else:
                    pairs.add((rng.choice(all_rests(one)), rng.choice(all_rests(other))))
            value = tuple(sorted(pairs))
            self.check(plain_pairing_holds(one, other, value), pairing_holds, one, other, value)


if __name__ == "__main__":
    unittest.main()
