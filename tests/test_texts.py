"""Point 23: receiver_text, log_text, parse_receiver, parse_log."""

import itertools
import random

from lateposts import texts
from lateposts.errors import BadReceiver, BadText
from lateposts.hearing import answers
from lateposts.logs import is_log
from lateposts.receivers import receiver_error
from lateposts.texts import log_text, parse_log, parse_receiver, receiver_text
from lateposts.windows import paired, window
from tests.checks import CallsTest
from tests.samples import R, U, full_receiver, many_rests, odd_values, random_numbers, random_receivers, row

R_TEXT = "1..2 take 0; 3..5 keep 1 / 1..2 take 0; 3..5 after 1..1 take 0; 3..5 keep 1"


class TextsTest(CallsTest):
    def check_bad(self, index, function, value):
        with self.assertRaises(BadText) as caught:
            function(value)
        self.assertIs(caught.exception.__class__, BadText)
        self.assertIs(caught.exception.index.__class__, index.__class__)
        self.assertEqual(caught.exception.index, index, value)

    def check_no_receiver(self, error, value):
        with self.assertRaises(BadReceiver) as caught:
            parse_receiver(value)
        self.assertEqual(caught.exception.error, error)

    def check_no_strings(self, function):
        for value in odd_values() + [b"1.. take 0", (), ("1.. take 0",), ["7+"], R, receiver_text]:
            if not isinstance(value, str):
                self.check_bad(None, function, value)


class ReceiverTextTest(TextsTest):
    def test_interface(self):
        self.check_interface(texts, {
            "receiver_text": "(receiver)",
            "log_text": "(log)",
            "parse_receiver": "(value)",
            "parse_log": "(value)",
        })

    def test_examples(self):
        self.check(R_TEXT, receiver_text, R)
        self.check(U, parse_receiver, "1.. take 0")
        self.check("7- -8+", log_text, ((7, False), (-8, True)))
        self.check_bad(1, parse_receiver, "1..2 take 0 / 3 take 0")

    def test_ranges(self):
        for ahead, text in (((1, 4), "1..4"), ((None, 0), "..0"), ((5, None), "5.."), ((None, None), ".."),
                            ((-6, -1), "-6..-1"), ((0, 0), "0..0"), ((-3, None), "-3.."), ((None, -6), "..-6")):
            self.check(f"{text} take 0", receiver_text, ((row(ahead),),))
            self.check(f"1..1 after {text} drop 0", receiver_text, ((row((1, 1), ahead, "drop"),),))
            self.check(((row(ahead),),), parse_receiver, f"{text} take 0")
            self.check(((row((1, 1), ahead, "drop"),),), parse_receiver, f"1..1 after {text} drop 0")

    def test_deeds_and_states(self):
        for deed in ("take", "keep", "leave", "drop"):
            for to_state in range(4):
                receiver = ((), (), (row((1, 2), None, deed, to_state),), ())
                self.check(f"- / - / 1..2 {deed} {to_state} / -", receiver_text, receiver)
                self.check(receiver, parse_receiver, f"- / - / 1..2 {deed} {to_state} / -")
        self.check("-", receiver_text, ((),))
        self.check(((),), parse_receiver, "-")
        self.check(((),) * 4, parse_receiver, "- / - / - / -")

    def test_texts_that_are_read_back(self):
        rng = random.Random(231)
        usual = [R, U, many_rests(), window(6), paired(1, 6, 4), full_receiver(rng)]
        for receiver in usual + random_receivers(232, 150):
            text = receiver_text(receiver)
            self.assertIs(text.__class__, str)
            self.assertEqual(text, " / ".join("; ".join(plain_row(one) for one in state) or "-" for state in receiver))
            self.check(receiver, parse_receiver, text)


def plain_row(entry):
    def limits(pair):
        return "..".join("" if bound is None else str(bound) for bound in pair)

    ahead, after, deed, to_state = entry
    return " ".join([limits(ahead)] + ([f"after {limits(after)}"] if after else []) + [deed, str(to_state)])


class ParseReceiverTest(TextsTest):
    def test_no_strings(self):
        self.check_no_strings(parse_receiver)

    def test_the_empty_string(self):
        self.check_bad(0, parse_receiver, "")

    def test_parts_not_written_as_a_state(self):
        for part in (
            "", " ", "--", "- ", " -", "-;", "; ", ";", "-; -", "1..2 take 0; -", "-; 1..2 take 0", "1..2 take 0;",
            "1..2 take 0; ", "; 1..2 take 0", "1..2 take 0;1..2 take 0", "1..2 take 0;  1..2 take 0", "1..2 take 0 ",
            " 1..2 take 0", "1..2  take 0", "1..2 take  0", "1..2 take", "take 0", "1..2 0", "1..2 take 0 0",
                     "1 take 0",
            "1.2 take 0", "1...2 take 0", "1....2 take 0", "1..2..3 take 0", "1 ..2 take 0", "1.. 2 take 0", ". take 0",
            "... take 0", "1..2 Take 0", "1..2 taken 0", "1..2 TAKE 0", "1..2 hear 0", "1..2 after take 0",
            "1..2 after 1 take 0", "1..2 after 1..1", "1..2 after 1..1 take", "1..2 after 1..1 after 1..1 take 0",
            "1..2 After 1..1 take 0", "after 1..1 take 0", "1..2 before 1..1 take 0", "1..2 1..1 take 0",
                     "1..2 after  take 0",
            "1..2 after 1..1 take 0 0", "1..2 take -1", "1..2 take -0", "1..2 take 00", "1..2 take 01", "1..2 take +1",
            "1..2 take 100", "1..2 take x", "1..2 take 1.", "1..2 take 1_0", "01..2 take 0", "1..02 take 0",
                     "-0..2 take 0",
            "0..-0 take 0", "00..2 take 0", "+1..2 take 0", "1..+2 take 0", "--1..2 take 0", "1..2- take 0",
                     "-..2 take 0",
            "1..- take 0", "100..101 take 0", "-100..2 take 0", "1..100 take 0", "1..-100 take 0",
                     "1..2 after 100.. take 0",
            "1..2 after ..-100 take 0", "a..2 take 0", "1..b take 0", "1..2\ttake 0", "1..2 take 0\n", "\n1..2 take 0",
            "1..2\n take 0", "1..2 take\n0", "/", "1..2 take 0 /", "/ 1..2 take 0", "1..2 take 0/1..2 take 0",
                     "1_0.. take 0",
            "0x1.. take 0", "1e1.. take 0", "\u0661.. take 0", "1..\u00b2 take 0", "1..2 take \u0660", "take", "..",
                     "a" * 2000,
        ):
            self.check_bad(0, parse_receiver, part)
            for before, behind in itertools.product(range(4), range(2)):
                text = " / ".join(["1..2 take 0; 3.. drop 1", "-",
                                   "1.. take 0"][:before] + [part] + ["1.. take 0"] * behind)
                if part not in ("/", "1..2 take 0 /", "/ 1..2 take 0"):
                    self.check_bad(before, parse_receiver, text)

    def test_the_first_part_that_is_wrong_is_told(self):
        self.check_bad(1, parse_receiver, "- / x / y / -")
        self.check_bad(2, parse_receiver, "- / - / ")
        self.check_bad(1, parse_receiver, "- /  / -")
        self.check_bad(0, parse_receiver, " / -")
        self.check_bad(1, parse_receiver, "- / / -")
        self.check_bad(1, parse_receiver, "- /  -")
        self.check_bad(0, parse_receiver, "-/ -")
        self.check_bad(0, parse_receiver, "-  / -")
        self.check_bad(9, parse_receiver, " / ".join(["-"] * 9 + ["x"]))
        self.check_bad(1, parse_receiver, "7..2 keep 9 / x")
        self.check_bad(3, parse_receiver, "9.. take 0 / - / - / 100.. take 0")

    def test_what_is_no_receiver(self):
        for text, error in (
            ("7.. take 0", ((0, 0), "ahead")), ("..-7 take 0", ((0, 0), "ahead")),
                            ("99..-99 take 0", ((0, 0), "ahead")),
            ("2..1 take 0", ((0, 0), "ahead")), ("1..2 after 2..1 take 0", ((0, 0), "after")),
            ("1..2 after ..10 take 0", ((0, 0), "after")), ("1.. keep 0", ((0, 0), "keep")),
                            ("..1 keep 0", ((0, 0), "keep")),
            (".. keep 0", ((0, 0), "keep")), ("1..2 take 1", ((0, 0), "next")), ("1..2 take 99", ((0, 0), "next")),
            ("1..2 take 10; 7.. take 0", ((0, 0), "next")), ("- / 1..2 take 1; 1.. keep 2", ((1, 1), "next")),
            ("- / - / 1..2 take 2; 1.. keep 2", ((2, 1), "keep")),
            (" / ".join(["-"] * 5), ((), "receiver")), (" / ".join(["7.. take 9"] * 20), ((), "receiver")),
            ("; ".join(["1.. take 0"] * 7), ((0,), "state")),
                            ("- / " + "; ".join(["7.. take 9"] * 100), ((1,), "state")),
        ):
            self.check_no_receiver(error, text)

    def test_as_many_rows_and_states_as_can_be(self):
        self.check((U[0] * 6,) * 4, parse_receiver, " / ".join(["; ".join(["1.. take 0"] * 6)] * 4))

    def test_texts_with_a_change(self):
        """A text that is changed in one place is refused, or is the text of what is read."""
        rng = random.Random(233)
        read = 0
        for receiver in random_receivers(234, 150):
            text = receiver_text(receiver)
            at = rng.randrange(len(text))
            instead = rng.choice(["", " ", "-", "0", "1", "12", ".", ";", "/", "a", text[at] * 2])
            changed = text[:at] + instead + text[at + 1:]
            try:
                told = parse_receiver(changed)
            except (BadText, BadReceiver):
                self.assertNotEqual(changed, text)
            else:
                read += 1
                self.assertIsNone(receiver_error(told))
                self.assertEqual(receiver_text(told), changed)
        self.assertGreater(read, 10)


class LogTextTest(TextsTest):
    def test_logs(self):
        self.check("", log_text, ())
        self.check("7+", log_text, ((7, True),))
        self.check("0- -1+ 10- -20-", log_text, ((0, False), (-1, True), (10, False), (-20, False)))
        self.check(" ".join(["5+"] * 40), log_text, ((5, True),) * 40)
        for digits in (40, 41, 1000):
            number = 10 ** digits - 1
            self.check(f"{'9' * digits}- -{'9' * digits}+", log_text, ((number, False), (-number, True)))

    def test_texts_that_are_read_back(self):
        rng = random.Random(235)
        for receiver in random_receivers(236, 60):
            numbers = random_numbers(rng, rng.choice((0, 1, 5, 40)), 9, rng.choice((0, 50, -10 ** 30)))
            log = tuple(zip(numbers, answers(receiver, numbers)))
            self.check(log, parse_log, log_text(log))


class ParseLogTest(TextsTest):
    def test_no_strings(self):
        self.check_no_strings(parse_log)

    def test_logs(self):
        self.check((), parse_log, "")
        self.check(((7, True),), parse_log, "7+")
        self.check(((-7, False),), parse_log, "-7-")
        self.check(((0, False), (0, True), (10, True)), parse_log, "0- 0+ 10+")
        for digits in (39, 40):
            self.check(((10 ** digits - 1, True), (1 - 10 ** digits, False)), parse_log,
                       f"{'9' * digits}+ -{'9' * digits}-")

    def test_pieces_not_as_told(self):
        for piece in (
            "", "7", "-7", "+", "-", "--", "+-", "-+", "7++", "7+-", "7--", "--7+", "+7+", "+7-", "07+", "00+", "-0+",
                      "-0-",
            "-01+", "7 +", "7*", "a+", "7a+", "7.0+", "1_0+", "7\t+", "7+\n", "\t7+", "7+,", "7+7+", "\u0667+",
                      "7\u00b2+",
            "1" + "0" * 40 + "+", "-1" + "0" * 40 + "-", "0" * 40 + "+", "9" * 1999 + "+", "x" * 2000, "yes", "True",
                      "(7, True)",
        ):
            if piece != "":
                self.check_bad(0, parse_log, piece)
            for before, behind in itertools.product((0, 1, 2, 39), (0, 1)):
                if piece != "" or before + behind > 0:
                    self.check_bad(before, parse_log, " ".join(["7+"] * before + [piece] + ["8-"] * behind))

    def test_blanks(self):
        self.check_bad(0, parse_log, " ")
        self.check_bad(0, parse_log, " 7+")
        self.check_bad(1, parse_log, "7+ ")
        self.check_bad(1, parse_log, "7+  8+")
        self.check_bad(0, parse_log, "7+\t8+")

    def test_at_most_40_pairs(self):
        text = " ".join(["5+"] * 40)
        self.check(((5, True),) * 40, parse_log, text)
        self.assertIs(is_log(parse_log(text)), True)
        for many in (41, 42, 600):
            self.check_bad(40, parse_log, " ".join(["5+"] * many))
        self.check_bad(40, parse_log, text + " 5")
        self.check_bad(41, parse_log, text + " 5+ 5")
        self.check_bad(50, parse_log, " ".join(["5+"] * 50 + [""]))
        self.check_bad(3, parse_log, " ".join(["5+"] * 3 + ["x"] + ["5+"] * 60))
