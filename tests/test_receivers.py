"""Points 3, 4 and 5: receiver_error."""

import unittest

from lateposts import receivers
from lateposts.receivers import receiver_error
from tests.samples import HUGE, R, U, image, nested, odd_values, random_receivers, row, same, shown

DEEDS = ("take", "keep", "leave", "drop")


def of_row(value, many=1):
    """A receiver of so many states with this row alone."""
    return ((value,),) + ((),) * (many - 1)


class ReceiversTest(unittest.TestCase):
    def check(self, value, expected):
        before = image(value)
        for _ in range(2):
            got = receiver_error(value)
            self.assertTrue(same(got, expected), f"{shown(value)}: {shown(got)} is not {shown(expected)}")
        self.assertTrue(image(value) == before, f"changed: {shown(value)}")

    def check_row(self, value, word, many=1):
        self.check(of_row(value, many), None if word is None else ((0, 0), word))

    def test_defined_here(self):
        self.assertEqual(receiver_error.__module__, "lateposts.receivers")
        self.assertEqual(receivers.is_stand.__module__, "lateposts.receivers")

    def test_examples(self):
        self.check(R, None)
        self.check(U, None)
        self.check(((((1, None), None, "keep", 0),),), ((0, 0), "keep"))
        self.check((((), ((1, 2), None, "take", 1)),), ((0, 0), "row"))

    def test_receivers_at_the_limits(self):
        self.check(((),), None)
        self.check(((),) * 4, None)
        self.check(((row(),) * 6,), None)
        self.check(((row(to_state=3),) * 6,) * 4, None)
        for value in random_receivers(1, 300):
            self.check(value, None)

    def test_number_of_states(self):
        self.check((), ((), "receiver"))
        self.check(((),) * 5, ((), "receiver"))
        self.check(((),) * 2000, ((), "receiver"))
        self.check((None,) * 5, ((), "receiver"))

    def test_no_tuple_at_all(self):
        for value in odd_values():
            self.check(value, ((), "receiver"))

    def test_number_of_rows(self):
        self.check(((row(),) * 7,), ((0,), "state"))
        self.check(((), (row(),) * 7), ((1,), "state"))
        self.check(((row(),) * 6, (), (), (row(),) * 2000), ((3,), "state"))

    def test_odd_states(self):
        for value in odd_values():
            self.check((value,), ((0,), "state"))
            self.check(((), (), value), ((2,), "state"))

    def test_number_of_items_of_a_row(self):
        for value in ((), ((1, 2),), row()[:3], row() + (0,), row() * 2, (0,) * 2000):
            self.check_row(value, "row")

    def test_odd_rows(self):
        for value in odd_values() + [list(row())]:
            self.check_row(value, "row")

    def test_ranges_ahead(self):
        for limits in ((-6, 6), (0, 0), (-6, -6), (6, 6), (None, None), (None, -6), (6, None), (None, 0), (2, 3)):
            self.check_row(row(ahead=limits), None)
        for limits in ((-7, 6), (-6, 7), (7, 7), (-7, -7), (None, 7), (-7, None), (7, None), (None, -7),
                       (1, 0), (6, -6), (0, -1), (-HUGE, 0), (0, HUGE), (True, 2), (0, True), (False, 2),
                       (-1, False), (True, True), (False, False), (False, None), (None, True), ("1", 2), (1, "2"),
                       ([1], 2), (1, (2,)), (), (1,), (1, 2, 3), (None,), (None, None, None), ((1, 2), None)):
            self.check_row(row(ahead=limits), "ahead")

    def test_odd_ranges_ahead(self):
        for value in odd_values() + [[1, 2], nested(0, 17)]:
            self.check_row(row(ahead=value), "ahead")
            self.check_row(row(ahead=(value, 2)), None if value is None or same(value, 0) or same(value, 1)
                           or same(value, -1) else "ahead")
            self.check_row(row(ahead=(1, value)), None if value is None or same(value, 1) else "ahead")

    def test_ranges_after(self):
        for limits in (None, (-6, 6), (0, 0), (-6, -6), (6, 6), (None, None), (None, -6), (6, None)):
            for deed in DEEDS:
                self.check_row(row(after=limits, deed=deed), None)
        for limits in ((-7, 6), (-6, 7), (None, 7), (-7, None), (1, 0), (6, -6), (-HUGE, 0), (0, HUGE), (True, 2),
                       (0, True), (False, None), (None, False), ("1", 2), (), (1,), (1, 2, 3), (None,), [1, 1],
                       [None, None]):
            self.check_row(row(after=limits), "after")

    def test_odd_ranges_after(self):
        for value in odd_values():
            self.check_row(row(after=value), None if value is None else "after")

    def test_deeds(self):
        self.check_row(row(deed="".join(["ta", "ke"])), None)
        for deed in DEEDS:
            self.check_row(row(deed=deed), None)
        for deed in ("Take", "take ", "", "tak", "hold", ("take",), ["take"], "takes"):
            self.check_row(row(deed=deed), "deed")
        for value in odd_values():
            self.check_row(row(deed=value), None if value in ("take", "keep") else "deed")

    def test_next(self):
        for many in range(1, 5):
            for to_state in range(many):
                self.check_row(row(to_state=to_state), None, many)
            for to_state in (many, many + 1, -1, -many, HUGE, -HUGE, True, False, None, "0", (0,), [0]):
                self.check_row(row(to_state=to_state), "next", many)
        for value in odd_values():
            self.check_row(row(to_state=value), None if same(value, 0) else "next")

    def test_next_of_later_states(self):
        self.check(((), (), (row(to_state=2), row(to_state=3))), ((2, 1), "next"))

    def test_keep_needs_both_bounds(self):
        self.check_row(row(ahead=(-6, 6), deed="keep"), None)
        for limits in ((None, 2), (1, None), (None, None)):
            self.check_row(row(ahead=limits, deed="keep"), "keep")
            self.check_row(row(ahead=(1, 2), after=limits, deed="keep"), None)
            for deed in ("take", "leave", "drop"):
                self.check_row(row(ahead=limits, deed=deed), None)

    def test_the_first_word_of_a_row(self):
        self.check_row((0, 0, 0, 9), "ahead")
        self.check_row(((1, 2), 0, 0, 9), "after")
        self.check_row(((1, 2), None, 0, 9), "deed")
        self.check_row(((1, None), None, "keep", 9), "next")
        self.check_row(((1, None), None, "keep", 0), "keep")
        self.check_row(((1, None), 0, "keep", 9), "after")
        self.check_row((0, 0, 0), "row")

    def test_the_first_place(self):
        wrong = row(deed="hold")
        self.check(((row(), row(), wrong), (wrong,), 5), ((0, 2), "deed"))
        self.check(((row(),), 5, (wrong,)), ((1,), "state"))
        self.check(((row(),), (row(), 5, wrong), 5), ((1, 1), "row"))
        self.check((5, (wrong,), 5), ((0,), "state"))
        self.check(((5, wrong) + (row(),) * 5, (wrong,)), ((0,), "state"))
        self.check(((5,), 5, 5, 5, 5), ((), "receiver"))
        self.check(((), (), (), (row(),) * 5 + (wrong,)), ((3, 5), "deed"))

    def test_lists_in_the_place_of_tuples(self):
        self.check(list(R), ((), "receiver"))
        self.check((R[0], list(R[1])), ((1,), "state"))
        self.check((R[0], (R[1][0], list(R[1][1]))), ((1, 1), "row"))
        self.check_row(row(ahead=[1, 2]), "ahead")
        self.check_row(row(after=[1, 2]), "after")


if __name__ == "__main__":
    unittest.main()
