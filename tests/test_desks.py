"""Point 24: Desk."""

import inspect
import random

from lateposts import desks as module
from lateposts.desks import Desk
from lateposts.inboxes import HaltedInbox, Inbox, LoggedHaltedInbox, LoggedInbox
from lateposts.losses import longest_wait, most_lost, waits
from lateposts.rules import Rules
from lateposts.windows import paired, window
from tests.checks import CallsTest
from tests.inbox_checks import KINDS, all_of, made
from tests.plain_late import plain_lasts, around, wide_ranges
from tests.samples import HUGE, R, U, nested, odd_values, random_receivers, row

NEVER = ((),)
ALWAYS = ((row((None, None)),),)
MOST = "9" * 40
NO_NUMBERS = ["", "x", "-", "--1", "+1", "01", "00", "-0", "-01", "1.", "1_0", "1e3", "0x1", "1-", "\u0661", "\u00b2",
              "1" + MOST, "-1" + MOST, "0" * 40, "True", "None", "1\t", "1\n"]


class DeskCase(CallsTest):
    def desk(self, receiver=R, last=0):
        return Desk(Inbox(Rules(receiver), last))

    def check_said(self, desk, *pairs):
        for line, answer in pairs:
            told = desk.say(line)
            self.assertIs(told.__class__, str)
            self.assertEqual(told, answer, line)
            self.assertEqual(desk.history[-1], (line, answer))


class DeskTest(DeskCase):
    def test_interface(self):
        self.assertEqual(Desk.__module__, module.__name__)
        self.assertEqual(Desk.__bases__, (object,))
        self.assertEqual(str(inspect.signature(Desk)), "(inbox)")
        self.assertEqual(str(inspect.signature(vars(Desk)["say"])), "(self, value)")
        self.assertIsInstance(vars(Desk)["history"], property)

    def test_examples(self):
        self.check_said(self.desk(), ("hear 4", "no"), ("hear 5", "yes"), ("would 8", "no"), ("taken", "5"),
                        ("wait 2", "2"),
                        ("wait", "never"), ("fits 7- 8+", "3..4, 7..7"), ("most 0", "error BadCount"),
                        ("hear  6", "unknown command"))

    def test_deeds(self):
        self.check_said(
            self.desk(), ("last", "0"), ("taken", "-"), ("hear 2", "yes"), ("hear 2", "no"), ("taken", "2"),
                        ("last", "2"),
            ("restart -5", "restarted -5"), ("last", "-5"), ("taken", "2"), ("hear -3", "yes"), ("taken", "2 -3"),
            ("undo", "version 3"), ("last", "-5"), ("undo", "version 2"), ("last", "2"), ("undo", "version 1"),
            ("undo", "version 0"), ("taken", "-"), ("undo", "error NothingToUndo"),
        )

    def test_it_is_this_very_inbox(self):
        for kind in KINDS:
            inbox, _ = made(kind, R)
            desk = Desk(inbox)
            desk.say("hear 1")
            self.assertEqual((inbox.taken, inbox.version), ((1,), 1))
            inbox(2)
            self.check_said(desk, ("taken", "1 2"), ("undo", "version 1"))
            self.assertEqual(inbox.taken, (1,))
            Desk(inbox).say("restart 9")
            self.check_said(desk, ("last", "9"))
            if isinstance(inbox, LoggedInbox):
                self.assertEqual(inbox.log, (("hear", 1, True), ("hear", 2, True), ("undo", 1), ("restart", 9)))

    def test_would(self):
        desk = self.desk()
        before = all_of(desk._inbox)
        self.check_said(desk, ("would 0", "no"), ("would 1", "yes"), ("would 2", "yes"), ("would 3", "no"),
                        ("would -1", "no"),
                        (f"would {MOST}", "no"))
        self.assertEqual(all_of(desk._inbox), before)
        inbox = HaltedInbox(Rules(U), 0, 1)
        desk = Desk(inbox)
        self.check_said(desk, ("would 1", "yes"), ("hear 0", "no"), ("would 1", "no"), ("hear 1", "error Halted"),
                        ("restart 0", "restarted 0"), ("would 1", "yes"))

    def test_numbers_of_40_digits(self):
        self.check_said(self.desk(U), (f"hear {MOST}", "yes"), ("last", MOST),
                        (f"restart -{MOST}", f"restarted -{MOST}"),
                        ("last", f"-{MOST}"), ("taken", MOST), (f"would -{MOST}", "no"), (f"wait {MOST}", "1"),
                        (f"most {MOST}", "any"), (f"wait -{MOST}", "error BadCount"), (f"fits {MOST}-", f"{MOST}.."))

    def test_long_numbers(self):
        number = 10 ** 999
        self.check_said(self.desk(U, number), ("last", str(number)), ("hear 5", "no"))
        inbox = Inbox(Rules(U), -number)
        inbox(-number + 1)
        self.check_said(Desk(inbox), ("taken", str(1 - number)), ("last", str(1 - number)), ("hear 5", "yes"),
                        ("taken", f"{1 - number} 5"))

    def test_form(self):
        for receiver, many in ((R, "3"), (U, "1"), (NEVER, "1"), (paired(1, 6, 4), str(len(Rules.paired(1, 6, 4))))):
            self.check_said(self.desk(receiver), ("form", many))

    def test_losses(self):
        self.check_said(self.desk(), ("wait 0", "1"), ("wait 4", "never"), ("most 1", "1"), ("most 2", "3"),
                        ("wait -1", "error BadCount"), ("most -1", "error BadCount"), ("most 0", "error BadCount"))
        self.check_said(self.desk(U), ("wait", "1"), ("wait 7", "1"), ("most 1", "any"))
        self.check_said(self.desk(NEVER), ("wait", "never"), ("wait 0", "never"), ("most 1", "none"))
        self.check_said(self.desk(window(3)), ("wait", "never"), ("wait 2", "1"), ("wait 3", "never"), ("most 9", "2"))
        for receiver in random_receivers(241, 40):
            desk = self.desk(receiver)
            longest, wait, most = longest_wait(receiver), waits(receiver, 1), most_lost(receiver, 2)
            self.check_said(desk, ("wait", "never" if longest is None else str(longest)),
                            ("wait 1", "never" if wait is None else str(wait)),
                            ("most 2", "none" if most is None else str(most)))

    def test_fits(self):
        self.check_said(
            self.desk(), ("fits 7+", "5..6"), ("fits 7+ 7+", "-"), ("fits 7- 8+", "3..4, 7..7"),
                        ("fits 7-", "..4, 7.."),
            ("fits 7", "error BadText"), ("fits 7- 8", "error BadText"), ("fits 07-", "error BadText"),
                        ("fits x", "error BadText"),
            ("fits fits", "error BadText"), ("fits -", "error BadText"), (f"fits 1{MOST}-", "error BadText"),
            ("fits " + " ".join(["7-"] * 40), "..4, 7.."), ("fits " + " ".join(["7-"] * 41), "error BadText"),
            ("fits", "unknown command"), ("fits ", "unknown command"), ("fits  7+", "unknown command"),
            ("fits 7+ ", "unknown command"), ("fits 7-  8+", "unknown command"), ("Fits 7+", "unknown command"),
        )
        self.check_said(self.desk(ALWAYS), ("fits 7+", ".."), ("fits 7-", "-"))
        rng = random.Random(242)
        for receiver in random_receivers(243, 40):
            log = tuple((rng.randint(-9, 9), rng.random() < 0.5) for _ in range(rng.randint(1, 3)))
            ranges = wide_ranges(plain_lasts(receiver, log), around(log)[0], around(log)[-1])
            told = [[str(bound) if bound is not None else "" for bound in limits] for limits in ranges]
            text = ", ".join("..".join(limits) for limits in told) or "-"
            pieces = " ".join(f"{number}{'+' if taken else '-'}" for number, taken in log)
            self.check_said(self.desk(receiver), (f"fits {pieces}", text))

    def test_fits_is_of_the_receiver_alone(self):
        desk = self.desk(R, 100)
        self.check_said(desk, ("hear 101", "yes"), ("fits 7+", "5..6"))

    def test_no_commands(self):
        desk = self.desk()
        before = all_of(desk._inbox)
        lines = [
            "", " ", "  ", "hear", "hear ", " hear 1", "hear 1 ", "hear  1", "hear 1 2", "hear\t1", "\thear 1",
            "hear 1\n", "Hear 1", "HEAR 1", "heard 1", "hear hear", "hear none", "restart", "restart 1 2", "restart  1",
            "undo 1", "undo ", " undo", "undo undo", "Undo", "would", "would 1 2", "last 1", "last ", "last last",
            "taken 1", "taken x", "form 1", "form -", "wait 1 2", "wait ", "wait x", "most", "most 1 2", "most x",
            "1", "-", "say last", "a" * 2000,
        ]
        words = ("hear", "restart", "would", "wait", "most")
        for line in lines + [f"{word} {number}" for word in words for number in NO_NUMBERS]:
            self.check_said(desk, (line, "unknown command"))
        self.assertEqual(all_of(desk._inbox), before)

    def test_any_value(self):
        desk = self.desk()
        before = all_of(desk._inbox)
        for value in odd_values() + [b"last", ("last",), ["last"], R, desk, desk._inbox, Rules(R), nested("last", 20)]:
            answer = desk.say(value)
            self.assertEqual(answer, "unknown command")
            line = value if isinstance(value, str) else None
            self.assertIs(desk.history[-1].__class__, tuple)
            self.assertEqual(desk.history[-1], (line, "unknown command"))
        self.assertEqual(all_of(desk._inbox), before)

    def test_errors_of_the_inbox(self):
        inbox = LoggedHaltedInbox(Rules(U), 0, 2)
        desk = Desk(inbox)
        self.check_said(desk, ("undo", "error NothingToUndo"), ("hear 0", "no"), ("hear 0", "no"),
                        ("hear 1", "error Halted"),
                        ("undo", "version 1"), ("hear 1", "yes"))
        for _ in range(58):
            inbox(inbox.last + 1)
        self.check_said(desk, ("hear 100", "error TooManyDeeds"), ("restart 100", "error TooManyDeeds"),
                        ("would 100", "yes"),
                        ("undo", "version 59"), ("restart 100", "restarted 100"), ("restart 100", "error TooManyDeeds"))

    def test_while_the_inbox_is_busy(self):
        for kind in KINDS:
            inbox, _ = made(kind, R)
            desk = Desk(inbox)
            inbox.hear_all((1,), on_take=lambda box: self.check_said(
                desk, ("hear 2", "error Busy"), ("restart 2", "error Busy"), ("undo", "error Busy"), ("would 2", "yes"),
                ("last", "1"), ("taken", "1"), ("form", "3"), ("wait 0", "1"), ("hear x", "unknown command")))
            self.check_said(desk, ("hear 2", "yes"))

    def test_within_a_trial(self):
        for kind in KINDS:
            inbox, _ = made(kind, R)
            desk = Desk(inbox)
            inbox.trial(lambda box: self.check_said(desk, ("hear 1", "yes"), ("restart 9", "restarted 9")))
            self.assertEqual(desk.history, (("hear 1", "yes"), ("restart 9", "restarted 9")))
            self.check_said(desk, ("last", "0"), ("taken", "-"), ("undo", "error NothingToUndo"))


class HistoryTest(DeskCase):
    def test_the_last_20_calls(self):
        desk = self.desk(U)
        self.assertEqual(desk.history, ())
        said = []
        for at in range(1, 45):
            line = (f"hear {at}", "last", "nothing", None, "undo", "hear -1")[at % 6]
            said.append((line, desk.say(7 if line is None else line)))
            self.assertEqual(desk.history, tuple(said[-20:]))
            self.assertEqual(len(desk.history), min(at, 20))
        self.assertIs(desk.history.__class__, tuple)

    def test_20_and_21_calls(self):
        desk = self.desk()
        for _ in range(20):
            desk.say("last")
        self.assertEqual(desk.history, (("last", "0"),) * 20)
        history = desk.history
        desk.say("most 0")
        self.assertEqual(desk.history, (("last", "0"),) * 19 + (("most 0", "error BadCount"),))
        self.assertEqual(history, (("last", "0"),) * 20)

    def test_each_desk_has_its_own(self):
        inbox = Inbox(Rules(R), 0)
        one, other = Desk(inbox), Desk(inbox)
        one.say("hear 1")
        self.assertEqual((one.history, other.history), ((("hear 1", "yes"),), ()))

    def test_it_can_only_be_read(self):
        desk = self.desk()
        with self.assertRaises(AttributeError):
            desk.history = (("last", "0"),)
        self.assertEqual(desk.history, ())

    def test_huge_numbers_are_never_shown(self):
        desk = Desk(Inbox(Rules(U), HUGE))
        self.assertEqual([desk.say("hear 5"), desk.say("taken"), desk.say("undo")], ["no", "-", "version 0"])
