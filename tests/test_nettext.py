"""The printed form of nets [10.1, 10.2]."""

import random
import unittest

from pressedwords.books import Book, Clash
from pressedwords.booktext import book_text
from pressedwords.errors import BadText
from pressedwords.nets import Net
from pressedwords.nettext import net_text, read_net
from pressedwords.trails import net_fault
from tests.helpers import caught, lot_for, root_of

ONE = lot_for([], 2)
AB = lot_for([".*ab.*"], 2)
EMPTY = Book((), (), ())
FILLED = ("bXaab=bYY",)
SHUT = ("bXYab=bbaY",)
TEXT = """net first room 300 forward looks 1
book 0 root
states 1
letter 0
letter 0
unknown 0 : 0
row 0 ?0 = ?0 1
book 1 root
states 1
letter 0
unknown 0 : 0
row 0 ?0 = ?0 0
roots - 0 1 0
borrowed
looked 0
look 0 2 1 0
end"""


def one(*rows):
    return root_of(ONE, *rows)


def state(net):
    """All that can be seen of a net."""
    return (net.order, net.room, net.backward, net.looks, net.rooted, [book.key for book in net.books],
            net.open_books, net.borrowed, net.looked, net.filled, net.verdict, net.ended, net.bound, net.largest,
            len(net), [net.way_to(number) for number in range(len(net))], [book.key for book in net.known],
            [net.outcomes_at(number) for number in net.looked])


class NetTextTest(unittest.TestCase):
    def test_an_example(self):
        net = Net([Clash("front", 0), one("aX=Xb"), one("aX=Xa"), one("bX=Xa")], ONE)
        net.advance()
        self.assertEqual(net_text(net), TEXT)

    def test_no_roots(self):
        net = Net([], ONE, [3, 0, 10 ** 6], room=10 ** 6, backward=True)
        self.assertEqual(net_text(net), "net 3 0 1000000 room 1000000 backward looks 0\nroots\nborrowed\nlooked\nend")
        self.assertEqual(net_text(Net([Clash("back", 0)], ONE, "least")).split("\n")[:2],
                         ["net least room 300 forward looks 0", "roots -"])

    def test_lines_of_books_that_were_listed_by_looks(self):
        net = Net([one(*SHUT)], ONE, "last", known=[one("abX=Xb")])
        net.run(5)
        lines = net_text(net).split("\n")
        at = 1
        for number, book in enumerate(net.books):
            way = net.way_to(number)
            words = f"from {way[-1][0]} {way[-1][1]}" if way else "root"
            self.assertEqual(lines[at], f"book {number} {words}")
            text = book_text(book).split("\n")
            self.assertEqual(lines[at + 1:at + 1 + len(text)], text)
            at += 1 + len(text)
        self.assertEqual(lines[at], "roots 0")
        self.assertEqual(lines[at + 1], " ".join(["borrowed"] + [str(number) for number in net.borrowed]))
        self.assertEqual(lines[at + 2], " ".join(["looked"] + [str(number) for number in net.looked]))
        for line, number in zip(lines[at + 3:], sorted(net.looked)):
            outcomes = net.outcomes_at(number)
            books = [(place, told) for place, (_, told) in enumerate(outcomes) if isinstance(told, int)]
            words = ["look", number, len(outcomes)] + [part for couple in books for part in couple]
            self.assertEqual(line, " ".join(map(str, words)))
        self.assertEqual(lines[at + 3 + len(net.looked):], ["end"])


class ReadNetTest(unittest.TestCase):
    def assert_goes_on_alike(self, net, lot=ONE, steps=6):
        text = net_text(net)
        read = read_net(text, lot, net.known)
        self.assertEqual(net_text(read), text)
        self.assertEqual(state(read), state(net))
        self.assertIs(read.lot, lot)
        other = read_net(text, lot, list(net.known))
        for step in range(steps):
            if net.ended:
                break
            if step == 2 and net.looked:
                net.forget(net.looked[0])
                other.forget(other.looked[0])
            self.assertEqual(other.advance(), net.advance())
            self.assertEqual(net_text(other), net_text(net))
        self.assertEqual(state(other), state(net))

    def test_printed_nets_read_back(self):
        draw = random.Random(3)
        known = [one("aX=Xb"), one(*SHUT)]
        for roots in ([], [EMPTY], [Clash("front", 0)], [one(*SHUT)], [one(*FILLED), Clash("back", 0), one(*SHUT)],
                      [one("aX=Xb"), one(*FILLED), one("aX=Xb"), EMPTY]):
            for order in ("first", "last", "least", (0,), (7, 2, 1)):
                for given in ({}, {"backward": True}, {"known": known}, {"room": 40}):
                    net = Net(roots, ONE, order, **given)
                    net.run(draw.randrange(6))
                    if net.looked and net.filled is None:
                        net.forget(draw.choice(net.looked))
                    self.assert_goes_on_alike(net)

    def test_ended_nets(self):
        for rows in (SHUT, FILLED, ("aX=Xb",)):
            net = Net([one(*rows)], ONE)
            net.run(1000)
            self.assert_goes_on_alike(net)
            read = read_net(net_text(net), ONE)
            self.assertIsNone(net_fault(read))
            for number in net.looked:
                self.assertEqual(read.outcomes_at(number), net.outcomes_at(number))

    def test_several_states(self):
        net = Net([root_of(AB, "abX=Xab", ends=((0, (2,)),) * 3)], AB)
        net.run(1)
        self.assert_goes_on_alike(net, AB)

    def test_one_net_does_not_change_the_other(self):
        net = Net([one(*SHUT)], ONE)
        net.run(3)
        text = net_text(net)
        read = read_net(text, ONE)
        read.run(5)
        read.forget(0)
        self.assertEqual(net_text(net), text)


class BadTextTest(unittest.TestCase):
    LINES = TEXT.split("\n")

    def assert_wrong(self, lines, at):
        text = lines if isinstance(lines, str) else "\n".join(lines)
        self.assertEqual(caught(BadText, read_net, text, ONE), (at, 0), text)

    def assert_line(self, at, *texts, wrong=None):
        """Each of the texts in the place of this line makes it the wrong one."""
        for text in texts:
            self.assert_wrong(self.LINES[:at] + [text] + self.LINES[at + 1:], at if wrong is None else wrong)

    def test_the_text_itself_is_right(self):
        self.assertEqual(net_text(read_net(TEXT, ONE)), TEXT)

    def test_missing_lines_count_as_the_number_of_lines(self):
        for many in range(1, len(self.LINES)):
            self.assert_wrong(self.LINES[:many], many)
        self.assert_wrong("", 0)

    def test_the_first_line(self):
        self.assert_line(
            0, "", "net", "first room 300 forward looks 1", "Net first room 300 forward looks 1",
            "net room 300 forward looks 1", "net middle room 300 forward looks 1",
            "net first 3 room 300 forward looks 1",
            "net first last room 300 forward looks 1", "net first room 0 forward looks 1",
            "net first room 1000001 forward looks 1", "net first room 0300 forward looks 1",
            "net first room -1 forward looks 1", "net first room  300 forward looks 1",
            "net first room 300 onward looks 1", "net first room 300 forward looks",
            "net first room 300 forward looks x",
            "net first room 300 forward looks 01", "net first room 300 forward looks 1 1",
            "net first room 300 forward looks 1 ", " net first room 300 forward looks 1",
            "net first rooms 300 forward looks 1", "net first room 300 forward look 1",
            "net 1000001 room 300 forward looks 1", "net 01 room 300 forward looks 1",
            "net -1 room 300 forward looks 1",
            "net " + "0 " * 61 + "room 300 forward looks 1", "net  room 300 forward looks 1",
            "net first room 300 forward looks 1000000000")
        for line in ("net 0 room 2 backward looks 999999999", "net " + "0 " * 60 + "room 1000000 forward looks 1"):
            self.assertEqual(net_text(read_net("\n".join([line] + self.LINES[1:]), ONE)).split("\n")[0], line)

    def test_a_book_line(self):
        self.assert_line(1, "", "book", "book 0", "book 1 root", "book 00 root", "book 0 Root", "book 0 root root",
                         "book 0 from 0 0", "book 0 root ", "book x root", "Book 0 root", "book  0 root",
                         "book -0 root")
        self.assert_line(7, "book 0 root", "book 2 root", "book 1", "book 1 from", "book 1 from 0", "book 1 from 1 0",
                         "book 1 from 0 x", "book 1 from x 0", "book 1 from 0 0 0", "book 1 from 00 0",
                         "book 1 from 0 1000000000", "book 1 form 0 0", "book 1 from -1 0")
        # The line before is right, so the roots are the wrong ones.
        self.assert_line(7, "book 1 from 0 0", "book 1 from 0 999999999", wrong=12)

    def test_the_room_bounds_the_numbers(self):
        for room, wrong in ((1, 7), (2, None)):
            lines = [f"net first room {room} forward looks 1"] + self.LINES[1:]
            if wrong is None:
                read_net("\n".join(lines), ONE)
            else:
                self.assert_wrong(lines, wrong)

    def test_a_root_behind_a_book_that_is_none(self):
        lines = self.LINES[:7] + ["book 1 from 0 1"] + self.LINES[8:12] + ["book 2 root"] + book_text(
            one("abX=Xab")).split("\n") + ["roots - 0 2"] + self.LINES[13:]
        self.assert_wrong(lines, 12)

    def test_the_lines_of_a_book(self):
        self.assert_line(2, "states 0", "states 01", "letter 0", "", "states", "row =")
        self.assert_line(3, "letter 1", "letter 0 0", "letters 0", "states 1", "roots", wrong=3)
        self.assert_line(5, "unknown 0 :  0", "unknown 1 : 0")
        self.assert_line(6, "row 0 ?0 = ?0 2", "row 0 ?1 = ?0 1", "row 0 ?0 ?0 1", "", "row", "end")
        self.assert_line(10, "unknown 0 : 1")
        # Without lines the next one is wrong.
        self.assert_wrong(self.LINES[:2] + self.LINES[7:], 2)
        self.assert_wrong(self.LINES[:8] + self.LINES[12:], 8)
        self.assert_wrong(self.LINES[:8], 8)

    def test_a_book_of_other_states(self):
        two = ["states 2", "letter 0 1", "unknown 0 : 0 1", "row 0 ?0 = ?0 0"]
        self.assert_wrong(self.LINES[:8] + two + self.LINES[12:], 7)
        # What is wrong within the book comes first.
        self.assert_wrong(self.LINES[:8] + two[:3] + ["row 9 ="] + self.LINES[12:], 11)

    def test_a_book_that_equals_an_earlier_one(self):
        self.assert_wrong(self.LINES[:8] + self.LINES[2:7] + self.LINES[12:], 7)

    def test_roots(self):
        self.assert_line(12, "", "roots", "roots 0", "roots 1 0", "roots 1", "roots 0 2", "roots 0 1 2", "roots 0 1 x",
                         "roots 0 01", "roots 0 1 ", "roots  0 1", "roots 0 -1", "roots --", "roots - - 1 0",
                         "rooted 0 1")
        for line in ("roots 0 1", "roots - 0 - 0 1 0 -"):
            net = read_net("\n".join(self.LINES[:12] + [line] + self.LINES[13:]), ONE)
            self.assertIn("\n" + line + "\n", net_text(net))

    def test_what_stands_behind_the_books(self):
        self.assert_line(12, "row 0 = 0", wrong=13)
        self.assert_line(12, "letter 0", "unknown 0 : 0", "end", "borrowed")

    def test_borrowed(self):
        self.assert_line(13, "", "borrowed 2", "borrowed 1 0", "borrowed 1 1", "borrowed x", "borrowed ", "borrow",
                         "borrowed 01", "borrowed -")
        # Book 0 is looked at, so then the next line is wrong.
        self.assert_line(13, "borrowed 0", "borrowed 0 1", wrong=14)
        read = read_net("\n".join(self.LINES[:13] + ["borrowed 1"] + self.LINES[14:]), ONE)
        self.assertEqual((read.borrowed, read.open_books, read.verdict), ((1,), (), "shut"))

    def test_looked(self):
        self.assert_line(14, "", "looked 2", "looked 0 0", "looked x", "looked ", "looked 00", "look 0", "looked 0 1")
        # Too few or other looks behind it.
        self.assert_line(14, "looked", "looked 1", wrong=15)
        two = ["net first room 300 forward looks 2"] + self.LINES[1:14] + ["looked 1 0", self.LINES[15]]
        self.assert_wrong(two + ["look 1 0", "look 1 0", "end"], 17)
        read = read_net("\n".join(two + ["look 1 3", "end"]), ONE)
        self.assertEqual((read.looked, read.looks), ((1, 0), 2))
        self.assert_wrong([self.LINES[0]] + two[1:] + ["look 1 3", "end"], 14)

    def test_books_without_rows(self):
        lines = self.LINES[:8] + ["states 1"] + self.LINES[12:]
        net = read_net("\n".join(lines), ONE)
        self.assertEqual((net.filled, net.verdict), (1, "filled"))
        self.assert_wrong(lines[:10] + ["borrowed 1"] + lines[11:], 10)
        self.assert_wrong(lines[:11] + ["looked 1", "look 1 0", "end"], 11)

    def test_look(self):
        self.assert_line(15, "", "look", "look 0", "look 1 2 1 0", "look 0 x", "look 0 02", "look 0 2 1",
                         "look 0 2 2 0", "look 0 2 1 2", "look 0 2 1 0 1 0", "look 0 2 1 0 0 0", "look 0 2 x 0",
                         "look 0 2 1 x",
                         "look 0 2 1 0 ", "look 0 1000000000", "look 0 2 1 0 1", "looks 0 2 1 0", "look 00 2 1 0",
                         "look 0 -1", "end")
        for line in ("look 0 0", "look 0 999999999 0 1 999999998 0", "look 0 2 0 0 1 1"):
            read = read_net("\n".join(self.LINES[:15] + [line, "end"]), ONE)
            self.assertIn("\n" + line + "\n", net_text(read))

    def test_end(self):
        self.assert_line(16, "", "end ", "end 0", "End", "look 0 2 1 0")
        self.assert_wrong(TEXT + "\n", 17)
        self.assert_wrong(TEXT + "\nend", 17)
        self.assert_wrong(TEXT + "\n\n", 17)

    def test_the_first_wrong_line_of_several(self):
        wrong = self.LINES[:6] + ["row"] + self.LINES[7:12] + ["roots x", "borrowed x"] + self.LINES[14:]
        self.assert_wrong(wrong, 6)
        self.assert_wrong([""] + wrong[1:], 0)
        self.assert_wrong(self.LINES[:12] + ["roots x", "borrowed x"] + self.LINES[14:], 12)


if __name__ == "__main__":
    unittest.main()
