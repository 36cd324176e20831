"""Point 22: LoggedInbox and LoggedHaltedInbox."""

from lateposts.errors import BadNumber, BadRow, Busy, Halted, NothingToUndo, TooManyDeeds
from lateposts.inboxes import LoggedHaltedInbox
from tests.inbox_checks import Boom, InboxTest, LOGGED, all_of, made
from tests.samples import HUGE, R, row, same

ALWAYS = ((row((None, None)),),)


class LogTest(InboxTest):
    def check_log(self, inbox, *rows):
        self.assertTrue(same(inbox.log, tuple(rows)), inbox.log)

    def test_a_row_for_each_call(self):
        for kind in LOGGED:
            inbox, _ = made(kind, R, 0, 9)
            self.check_log(inbox)
            inbox(1)
            self.check_log(inbox, ("hear", 1, True))
            inbox(9)
            self.check_log(inbox, ("hear", 1, True), ("hear", 9, False))
            inbox.restart(-HUGE)
            self.check_log(inbox, ("hear", 1, True), ("hear", 9, False), ("restart", -HUGE))
            inbox.undo()
            self.check_log(inbox, ("hear", 1, True), ("hear", 9, False), ("restart", -HUGE), ("undo", 2))
            inbox.hear_all([2, 2, 3])
            self.assertTrue(same(inbox.log[4:], (("row", (True, False, True)),)))
            inbox.hear_all(())
            self.assertTrue(same(inbox.log[4:], (("row", (True, False, True)), ("row", ()))))

    def test_undo_takes_no_row_away(self):
        for kind in LOGGED:
            inbox, _ = made(kind, R)
            inbox.hear_all((1, 2))
            inbox.undo()
            inbox.undo()
            self.check_log(inbox, ("row", (True, True)), ("undo", 1), ("undo", 0))

    def test_no_row_for_a_call_that_raises(self):
        for kind in LOGGED:
            inbox, _ = made(kind, R, 0, 9)
            for error, call in ((BadNumber, lambda: inbox(None)), (BadNumber, lambda: inbox.restart("1")),
                                (NothingToUndo, inbox.undo), (BadRow, lambda: inbox.hear_all("12")),
                                (BadNumber, lambda: inbox.hear_all((1, None))),
                                (Boom, lambda: inbox.hear_all((1,), on_take=self.raise_boom))):
                with self.assertRaises(error):
                    call()
                self.check_log(inbox)
            for at in range(60):
                inbox(at)
            log = inbox.log
            self.assertEqual(len(log), 60)
            for call in (lambda: inbox(1), lambda: inbox.restart(1), lambda: inbox.hear_all((1,))):
                with self.assertRaises(TooManyDeeds):
                    call()
                self.assertIs(inbox.log, log)

    def raise_boom(self, box):
        raise Boom()

    def test_no_row_for_what_only_asks(self):
        for kind in LOGGED:
            inbox, _ = made(kind, R)
            all_of(inbox), str(inbox), inbox == inbox.copy(), 1 in inbox, inbox.trial(len), list(inbox)
            self.check_log(inbox)

    def test_no_row_for_a_halt(self):
        inbox, _ = made(LoggedHaltedInbox, R, 0, 1)
        inbox(0)
        for call in (lambda: inbox(1), lambda: inbox.hear_all((1, 2))):
            with self.assertRaises(Halted):
                call()
        self.check_log(inbox, ("hear", 0, False))
        inbox.restart(0)
        with self.assertRaises(Halted):
            inbox.hear_all((1, 1, 2))
        self.check_log(inbox, ("hear", 0, False), ("restart", 0))

    def test_no_row_for_a_busy_call(self):
        for kind in LOGGED:
            inbox, _ = made(kind, ALWAYS)

            def take(box):
                for call in (lambda: box(1), lambda: box.restart(1), box.undo, lambda: box.hear_all(())):
                    with self.assertRaises(Busy):
                        call()

            inbox.hear_all((1,), on_take=take)
            self.check_log(inbox, ("row", (True,)))

    def test_trials_take_their_rows_away(self):
        for kind in LOGGED:
            inbox, _ = made(kind, R)
            inbox(1)
            seen = []

            def attempt(box):
                box(2)
                with self.assertRaises(Boom):
                    box.trial(lambda own: [own(3), own.undo(), seen.append(own.log), self.raise_boom(own)])
                seen.append(box.log)
                box.undo()
                box.hear_all((2, 3))
                seen.append(box.log)

            inbox.trial(attempt)
            self.check_log(inbox, ("hear", 1, True))
            start = (("hear", 1, True), ("hear", 2, True))
            self.assertTrue(same(seen, [start + (("hear", 3, True), ("undo", 2)), start,
                                        start + (("undo", 1), ("row", (True, True)))]))
            inbox(2)
            self.check_log(inbox, ("hear", 1, True), ("hear", 2, True))

    def test_copies_go_on_by_themselves(self):
        for kind in LOGGED:
            inbox, _ = made(kind, R)
            inbox(1)
            copied = inbox.copy()
            self.check_log(copied, ("hear", 1, True))
            copied.restart(5)
            inbox.undo()
            self.check_log(copied, ("hear", 1, True), ("restart", 5))
            self.check_log(inbox, ("hear", 1, True), ("undo", 0))
            again = copied.copy()
            again.hear_all(())
            self.check_log(again, ("hear", 1, True), ("restart", 5), ("row", ()))
            self.check_log(copied, ("hear", 1, True), ("restart", 5))

    def test_the_log_goes_on_beyond_60_deeds(self):
        for kind in LOGGED:
            inbox, _ = made(kind, R)
            for _ in range(100):
                inbox(1)
                inbox.undo()
            self.assertEqual(inbox.log, (("hear", 1, True), ("undo", 0)) * 100)

    def test_it_can_only_be_read(self):
        for kind in LOGGED:
            inbox, _ = made(kind, R)
            with self.assertRaises(AttributeError):
                inbox.log = (("hear", 1, True),)
            self.check_log(inbox)
