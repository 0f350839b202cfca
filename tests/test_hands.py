"""Hands at a net [10.3 to 10.8]."""

import random
import unittest

from pressedwords.books import Book
from pressedwords.errors import BadMany, BadText, Busy, Ended, Idle, NoBook, NoHand, NoReport, NotLooked, TooFull
from pressedwords.hands import Hands, hands_text, read_hands
from pressedwords.nets import Net
from pressedwords.nettext import net_text
from pressedwords.trails import net_fault
from tests.helpers import caught, lot_for, root_of

ONE = lot_for([], 2)
FILLED = ("bXaab=bYY",)
SHUT = ("bXYab=bbaY",)
SMALL = ("YYbb=bbbaY",)
NO_HANDS = (-1, 3, True, False, None, "0", (0,))


def one(*rows):
    return root_of(ONE, *rows)


def hands_at(*rows, many=3, **given):
    return Hands(Net([one(*row) for row in rows], ONE, **given), many)


def state(hands):
    return hands_text(hands), hands.reports, [hands.holds(hand) for hand in range(hands.many)]


class HandsTest(unittest.TestCase):
    def test_attributes(self):
        net = Net([one(*SHUT)], ONE)
        for many in range(1, 7):
            hands = Hands(net, many)
            self.assertIs(hands.net, net)
            self.assertEqual((hands.many, hands.reports), (many, ()))
            self.assertEqual([hands.holds(hand) for hand in range(many)], [None] * many)

    def test_wrong_counts(self):
        for many in (0, 7, -1, True, None, "2", (2,)):
            self.assertEqual(caught(BadMany, Hands, Net([], ONE), many), ())

    def test_no_hand_first(self):
        for hands in (hands_at(SHUT), hands_at(FILLED)):
            hands.take(0)
            hands.net.run(100)
            for hand in NO_HANDS:
                for call in (hands.take, hands.drop, hands.write, hands.holds):
                    self.assertEqual(caught(NoHand, call, hand), (hand,))


class TakeTest(unittest.TestCase):
    def test_the_least_open_book_that_no_hand_has(self):
        hands = hands_at(SHUT, SMALL, ("aX=Xa",), ("bX=Xa",), known=[one(*SMALL)])
        self.assertEqual(hands.net.open_books, (0, 2, 3))
        self.assertEqual(hands.take(2), 0)
        self.assertEqual(hands.take(0), 2)
        self.assertEqual(hands.take(1), 3)
        self.assertEqual([hands.holds(hand) for hand in range(3)], [2, 3, 0])
        self.assertIsNone(hands.drop(2))
        self.assertIsNone(hands.holds(2))
        self.assertEqual(hands.take(2), 0)

    def test_none_left(self):
        hands = hands_at(SHUT)
        hands.take(0)
        before = state(hands)
        self.assertIsNone(hands.take(1))
        self.assertEqual(state(hands), before)

    def test_busy_ahead_of_none(self):
        hands = hands_at(SHUT)
        hands.take(0)
        self.assertEqual(caught(Busy, hands.take, 0), (0,))
        hands = Hands(Net([one(*FILLED), one(*SHUT)], ONE), 2)
        hands.take(0)
        hands.take(1)
        while not hands.net.ended:
            hands.net.look_at([number for number in hands.net.open_books if number != hands.holds(1)][0])
        self.assertEqual(caught(Busy, hands.take, 1), (1,))
        hands.drop(1)
        self.assertIsNone(hands.take(1))
        self.assertIsNone(hands.holds(1))

    def test_idle(self):
        hands = hands_at(SHUT)
        self.assertEqual(caught(Idle, hands.drop, 1), (1,))
        self.assertEqual(caught(Idle, hands.write, 1), (1,))
        hands.take(1)
        hands.drop(1)
        self.assertEqual(caught(Idle, hands.write, 1), (1,))
        self.assertEqual(hands.reports, ())


class ReportTest(unittest.TestCase):
    def test_write_and_deliver(self):
        hands = hands_at(SHUT)
        hands.take(1)
        self.assertEqual(hands.write(1), 0)
        self.assertEqual(hands.write(1), 1)
        self.assertEqual((hands.holds(1), hands.reports, hands.net.looks), (0, (0, 1), 0))
        self.assertIs(hands.deliver(0), True)
        self.assertEqual((hands.holds(1), hands.reports, hands.net.looks, hands.net.looked), (None, (0, 1), 1, (0,)))
        # The book is no longer open.
        before = state(hands)
        self.assertIs(hands.deliver(0), False)
        self.assertIs(hands.deliver(1), False)
        self.assertEqual(state(hands), before)

    def test_a_late_report_takes_the_book_from_another_hand(self):
        hands = hands_at(SHUT, SMALL)
        hands.take(0)
        hands.take(2)
        report = hands.write(0)
        hands.drop(0)
        self.assertEqual(hands.take(1), 0)
        self.assertIs(hands.deliver(report), True)
        self.assertEqual([hands.holds(hand) for hand in range(3)], [None, None, 1])

    def test_a_report_of_a_forgotten_book(self):
        hands = hands_at(SHUT)
        hands.take(0)
        report = hands.write(0)
        hands.deliver(report)
        net = hands.net
        books, outcomes = net.books, net.outcomes_at(0)
        self.assertIsNone(hands.forget(0))
        self.assertEqual(net.open_books[0], 0)
        self.assertIs(hands.deliver(report), True)
        self.assertEqual((net.books, net.outcomes_at(0), net.looks, net.looked), (books, outcomes, 2, (0,)))

    def test_lost_reports(self):
        hands = hands_at(SHUT)
        hands.take(0)
        for _ in range(3):
            hands.write(0)
        self.assertIsNone(hands.lose(1))
        self.assertEqual(hands.reports, (0, 2))
        for call in (hands.deliver, hands.lose):
            for report in (1, 3, -1, True, False, None, "0", (0,)):
                self.assertEqual(caught(NoReport, call, report), (report,))
        self.assertEqual(hands.write(0), 3)
        self.assertIs(hands.deliver(2), True)
        hands.lose(2)
        self.assertEqual(hands.reports, (0, 3))
        self.assertEqual(caught(NoReport, hands.deliver, 2), (2,))

    def test_no_report_ahead_of_the_end(self):
        hands = hands_at(SHUT)
        hands.take(0)
        hands.write(0)
        hands.finish()
        self.assertEqual(caught(NoReport, hands.deliver, 99), (99,))
        self.assertIs(hands.deliver(0), False)

    def test_an_ended_net_takes_nothing_in(self):
        hands = Hands(Net([one(*FILLED), one(*SHUT)], ONE), 2)
        hands.take(0)
        hands.take(1)
        report = hands.write(1)
        hands.net.look_at(0)
        while not hands.net.ended:
            hands.net.look_at([number for number in hands.net.open_books if number != 1][0])
        self.assertIn(1, hands.net.open_books)
        before = state(hands)
        self.assertIs(hands.deliver(report), False)
        self.assertEqual(state(hands), before)
        self.assertEqual(hands.write(1), 1)

    def test_too_full_goes_through(self):
        hands = hands_at(SHUT, room=1)
        hands.take(0)
        report = hands.write(0)
        before = state(hands)
        self.assertEqual(caught(TooFull, hands.deliver, report), ((0,),))
        self.assertEqual(state(hands), before)

    def test_forget_is_the_net_s(self):
        hands = hands_at(SHUT)
        self.assertEqual(caught(NoBook, hands.forget, 9), (9,))
        self.assertEqual(caught(NotLooked, hands.forget, 0), (0,))
        hands = hands_at(FILLED)
        hands.finish()
        self.assertEqual(caught(Ended, hands.forget, 0), ("filled",))


class FinishTest(unittest.TestCase):
    def test_finish(self):
        hands = hands_at(SHUT)
        self.assertEqual(hands.finish(), 27)
        self.assertEqual((hands.net.verdict, hands.reports), ("shut", tuple(range(27))))
        self.assertEqual(hands.finish(), 0)
        self.assertEqual(hands.net.looked, tuple(range(27)))

    def test_the_least_hand_with_a_book_goes_first(self):
        hands = hands_at(("aX=Xb",), SHUT, SMALL)
        hands.take(2)
        hands.take(1)
        hands.drop(2)
        hands.take(0)
        hands.take(2)
        self.assertEqual([hands.holds(hand) for hand in range(3)], [0, 1, 2])
        hands.drop(0)
        hands.finish()
        # Hands 1 and 2 work on, and then hand 0 alone takes the least book again and again.
        self.assertEqual(hands.net.looked[:4], (1, 2, 0, 3))
        self.assertEqual(list(hands.net.looked[2:]), sorted(hands.net.looked[2:]))

    def test_too_full(self):
        hands = hands_at(SHUT, room=10)
        caught(TooFull, hands.finish)
        looks = hands.net.looks
        self.assertGreater(looks, 0)
        self.assertEqual(len(hands.reports), looks + 1)
        self.assertEqual(hands.holds(0), hands.net.open_books[0])

    def test_books_that_hands_have_at_the_end(self):
        hands = Hands(Net([one("aX=Xa"), one(*SHUT)], ONE), 2)
        hands.take(0)
        hands.take(1)
        hands.finish()
        self.assertEqual((hands.net.verdict, hands.holds(1)), ("filled", 1))


def wild(draw, hands, acts):
    """Any acts of hands; what the hands refuse is left out."""
    for _ in range(acts):
        hand = draw.randrange(hands.many)
        act = draw.randrange(7)
        if act < 2 and hands.holds(hand) is None:
            hands.take(hand)
        elif act < 4 and hands.holds(hand) is not None:
            report = hands.write(hand)
            if draw.random() < 0.6:
                hands.deliver(report)
        elif act == 4 and hands.reports:
            hands.deliver(draw.choice(hands.reports))
        elif act == 5 and hands.holds(hand) is not None and draw.random() < 0.3:
            hands.drop(hand)
        elif act == 6 and draw.random() < 0.2:
            if hands.net.looked and hands.net.filled is None:
                hands.forget(draw.choice(hands.net.looked))
            elif hands.reports:
                hands.lose(draw.choice(hands.reports))


class WhateverTheHandsDoTest(unittest.TestCase):
    def test_verdict_and_books(self):
        draw = random.Random(12)
        for rows in ([SHUT], [FILLED], [SMALL, ("aX=Xb",)], [SHUT, FILLED], [("Y=baX", "XY=Yb")]):
            alone = Net([one(*row) for row in rows], ONE)
            alone.run(1000)
            for many in (1, 2, 6):
                hands = hands_at(*rows, many=many)
                for _ in range(20):
                    wild(draw, hands, 10)
                    held = [hands.holds(hand) for hand in range(many) if hands.holds(hand) is not None]
                    self.assertEqual(len(set(held)), len(held))
                    self.assertLessEqual(set(held), set(hands.net.open_books))
                self.assertIsNone(net_fault(hands.net))
                hands.finish()
                self.assertIsNone(net_fault(hands.net))
                self.assertEqual(hands.net.verdict, alone.verdict)
                if alone.verdict == "shut":
                    self.assertEqual({book.key for book in hands.net}, {book.key for book in alone})


class HandsTextTest(unittest.TestCase):
    def test_the_lines(self):
        hands = hands_at(SHUT, SMALL)
        hands.take(2)
        hands.take(0)
        for hand in (0, 2, 2):
            hands.write(hand)
        hands.lose(1)
        self.assertEqual(hands_text(hands), "hands 1 - 0\nreports 1 lost 0\n" + net_text(hands.net))
        fresh = hands_at(SHUT, many=1)
        self.assertEqual(hands_text(fresh), "hands -\nreports\n" + net_text(fresh.net))

    def test_read_back(self):
        draw = random.Random(13)
        for rows in ([SHUT], [FILLED], [SHUT, FILLED]):
            for many in (1, 3, 6):
                known = [one("aX=Xb")]
                hands = hands_at(*rows, ("aX=Xb",), many=many, known=known)
                for _ in range(6):
                    text = hands_text(hands)
                    read = read_hands(text, ONE, known)
                    self.assertEqual(state(read), state(hands))
                    self.assertEqual((read.many, read.net.looked), (many, hands.net.looked))
                    seed = draw.random()
                    wild(random.Random(seed), hands, 8)
                    wild(random.Random(seed), read, 8)
                    self.assertEqual(state(read), state(hands))
                self.assertEqual(read.finish(), hands.finish())
                self.assertEqual(state(read), state(hands))


class BadTextTest(unittest.TestCase):
    def setUp(self):
        hands = hands_at(SHUT, ("aX=Xb",), SMALL, known=[one("aX=Xb")])
        hands.take(0)
        hands.write(0)
        hands.deliver(0)
        hands.take(0)
        hands.write(0)
        hands.take(1)
        hands.lose(1)
        self.hands = hands
        self.lines = hands_text(hands).split("\n")
        self.assertEqual(self.lines[:2], ["hands 2 3 -", "reports 0 lost"])

    def assert_wrong(self, lines, at):
        text = "\n".join(lines)
        self.assertEqual(caught(BadText, read_hands, text, ONE, self.hands.net.known), (at, 0), lines[:2])

    def assert_line(self, at, *texts):
        for text in texts:
            self.assert_wrong(self.lines[:at] + [text] + self.lines[at + 1:], at)

    def test_line_0_by_its_form(self):
        self.assert_line(0, "", "hands", "hands - - - - - - -", "hand 2 3 -", "hands 2 3 x", "hands 2  3",
                         "hands 02 3 -", "hands 2 3 ", "hands -1", "hands lost", "Hands -", " hands -")

    def test_line_0_by_the_books(self):
        # 0 is looked at, 1 borrowed, 99 not listed, and 2 has another hand.
        self.assert_line(0, "hands 0 3 -", "hands 1 3 -", "hands 99 3 -", "hands 2 - 2", "hands 0")
        for line in ("hands -", "hands 3", "hands - - - - - 2"):
            read = read_hands("\n".join([line] + self.lines[1:]), ONE, self.hands.net.known)
            self.assertEqual(hands_text(read).split("\n")[0], line)

    def test_line_1_by_its_form(self):
        self.assert_line(1, "", "report 0", "reports x", "reports -", "reports 0  lost", "reports 00", "reports Lost",
                         "reports ", "reports -1")
        for line in ("reports", "reports lost lost", "reports 0 2 2 3 0"):
            read = read_hands("\n".join([self.lines[0], line] + self.lines[2:]), ONE, self.hands.net.known)
            self.assertEqual(hands_text(read).split("\n")[1], line)

    def test_line_1_by_the_books(self):
        many = len(self.hands.net)
        self.assert_line(1, "reports 1", "reports 99", f"reports {many}", "reports 0 lost 1")
        empty = Hands(Net([Book((), (), ()), one(*SHUT)], ONE), 1)
        lines = hands_text(empty).split("\n")
        self.assert_wrong([lines[0], "reports 0"] + lines[2:], 1)
        self.assert_wrong(["hands 0"] + lines[1:], 0)

    def test_lines_of_the_net(self):
        for at in range(2, len(self.lines)):
            self.assert_wrong(self.lines[:at] + ["x"] + self.lines[at + 1:], at)
        self.assert_wrong(self.lines + [""], len(self.lines))

    def test_missing_lines(self):
        for many in range(1, len(self.lines)):
            self.assert_wrong(self.lines[:many], many)
        self.assert_wrong([""], 0)

    def test_the_order_of_the_faults(self):
        wrong = ["hands 0 3 -", "reports 1"] + self.lines[2:]
        self.assert_wrong(wrong, 0)
        self.assert_wrong(wrong[:5] + ["x"] + wrong[6:], 5)
        self.assert_wrong(["hands 0 3 -", "reports x"] + self.lines[2:], 1)
        self.assert_wrong(["hands x", "reports x"] + self.lines[2:], 0)
        self.assert_wrong(["hands 0 3 -", "reports x", "x"], 1)


if __name__ == "__main__":
    unittest.main()
