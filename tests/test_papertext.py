"""Papers as texts [13.8]."""

import unittest

from pressedwords.booktext import book_text
from pressedwords.books import Book
from pressedwords.carries import Carries
from pressedwords.errors import BadPaperText
from pressedwords.nets import Net
from pressedwords.papers import Entry, Paper, closed_list
from pressedwords.papertext import paper_text, read_paper
from tests.helpers import caught, holds_list, lot_for, root_of

BOOK = Book([((-1, 0), (1, -1))], [(0, 1), (1, 1)], [(0, (0, 1))], 2)
PAPER = Paper(((0, 1), (), (12,)), (
    Entry(BOOK, ("first", 3), ((2, Carries(((0, -1), (), (999999999, -999999999)))), (2, Carries(())))),
    Entry(Book((), (), ()), ("pair", (2, 0, 2), (1,)), ()),
    Entry(BOOK, ("block", (1, 0)), ((0, Carries(((-7,),))),)),
    Entry(BOOK, ("pair", (), (3,)), ()), Entry(BOOK, ("pair", (4,), ()), ()), Entry(BOOK, ("pair", (), ()), ()),
    Entry(BOOK, ("block", ()), ()),
))
TEXT = "\n".join((
    "paper 3", "deed 0 1", "deed", "deed 12",
    "entry", book_text(BOOK), "step first 3",
    "shut 2", "carry 0 -1", "carry", "carry 999999999 -999999999", "shut 2",
    "entry", "states 1", "step pair 2 0 2 : 1",
    "entry", book_text(BOOK), "step block 1 0", "shut 0", "carry -7",
    "entry", book_text(BOOK), "step pair : 3", "entry", book_text(BOOK), "step pair 4 :",
    "entry", book_text(BOOK), "step pair :", "entry", book_text(BOOK), "step block",
))


class PrintedTest(unittest.TestCase):
    def test_each_line(self):
        self.assertEqual(paper_text(PAPER), TEXT)
        self.assertEqual(paper_text(Paper((), ())), "paper 0")
        self.assertEqual(paper_text(Paper([()], ())), "paper 1\ndeed")

    def test_read_back(self):
        for paper in (PAPER, Paper((), ()), Paper([()], ()), Paper([(), (0,), (0,)], PAPER.entries[::-1])):
            told = read_paper(paper_text(paper))
            self.assertIs(type(told), Paper)
            self.assertEqual(told, paper)
            self.assertFalse(holds_list(told.deeds))
            for entry in told:
                self.assertFalse(holds_list((entry.step, entry.lots, tuple(carries.rows for _, carries in entry.lots))))

    def test_papers_of_nets(self):
        for texts, row in (((), "bXYab=bbaY"), ((), "babaX=bXaaa"), (("(aa|b)*",), "XaaY=bba"), ((".*ab.*",), "bXaaY=bbab")):
            lot = lot_for(texts, 2)
            net = Net([root_of(lot, row)], lot)
            net.run(1000)
            paper = closed_list(net)
            self.assertEqual(read_paper(paper_text(paper)), paper)


class SpoiledTest(unittest.TestCase):
    def refused(self, text):
        self.assertEqual(caught(BadPaperText, read_paper, text), (), text)

    def test_head(self):
        for text in ("", "paper", "paper ", "paper 1", "paper 00", "paper -0", "paper 0 ", "paper  0", " paper 0", "Paper 0",
                     "paper x", "paper 0\n", "\npaper 0", "paper 0\nend", "paper 0\r", "paper 0 0", "papers 0",
                     "paper 1000000000", "paper 2\ndeed 0", "paper 0\ndeed 0", "paper 1\ndeed 0\ndeed 0"):
            self.refused(text)

    def test_deeds(self):
        self.assertEqual(read_paper("paper 1\ndeed 999999999 0").deeds, ((999999999, 0),))
        for line in ("deed ", "deed 01", "deed -1", "deed 1000000000", "deed  0", "deed 0 ", "deed a", "deeds 0", "", "deed +1"):
            self.refused("paper 1\n" + line)

    def entry(self, book="states 1", step="step first 0", rest=""):
        return "paper 0\nentry\n" + book + "\n" + step + rest

    def test_entries(self):
        self.assertEqual(read_paper(self.entry()), Paper((), [Entry(Book((), (), ()), ("first", 0), ())]))
        for text in ("paper 0\nentry", "paper 0\nentry\nstates 1", "paper 0\nentry\nstep first 0", "paper 0\nentry \nstates 1"
                     "\nstep first 0", "paper 0\nentry 0\nstates 1\nstep first 0", "paper 0\nentries\nstates 1\nstep first 0",
                     "paper 0\nstates 1\nstep first 0", self.entry(rest="\n"), self.entry(rest="\nstep first 0"),
                     self.entry(rest="\nentry"), self.entry(rest="\nend"), self.entry(rest="\ndeed 0")):
            self.refused(text)

    def test_books(self):
        for book in ("", "states 0", "states 1 ", "states 1\n", "states 1\nletter 1", "states 1\nrow 0 = 0", "states 1\nrow =  ",
                     "states 1\nentry", "states 1\nshut 0", "states 1\nletter 0\nstates 1", "states  1", "paper 0"):
            self.refused(self.entry(book=book))
        book = "states 1\nletter 0\nunknown 0 : 0\nrow 0 ?0 = ?0 0\nrow = ?0"
        self.assertEqual(book_text(read_paper(self.entry(book=book)).books[0]), book)

    def test_steps(self):
        for step, told in (("first 999999999", ("first", 999999999)), ("block 5 5 0", ("block", (5, 5, 0))),
                           ("pair 1 1 : 0 7", ("pair", (1, 1), (0, 7)))):
            self.assertEqual(read_paper(self.entry(step="step " + step)).entries[0].step, told)
        for step in ("step", "step ", "step first", "step first ", "step first 0 0", "step first -1", "step first 01",
                     "step first 1000000000", "step pair", "step pair 0 1", "step pair 0 : 1 : 2", "step pair 0 : 1 ",
                     "step pair  : 1", "step pair 0 :1", "step pair -1 : 0", "step block ", "step block : ", "step block -1",
                     "step block 0 x", "step row 0", "step row 0 : 1", "step : 0", "steps first 0", "step  first 0", "step First 0"):
            self.refused(self.entry(step=step))

    def test_lots(self):
        rest = "\nshut 7\ncarry\nshut 0\nshut 7"
        lots = ((7, Carries(((),))), (0, Carries(())), (7, Carries(())))
        self.assertEqual(read_paper(self.entry(rest=rest)).entries[0].lots, lots)
        for rest in ("\nshut", "\nshut ", "\nshut -1", "\nshut 01", "\nshut 0 0", "\nshut 1000000000", "\ncarry 0",
                     "\nshut 0\ncarry ", "\nshut 0\ncarry -0", "\nshut 0\ncarry 00", "\nshut 0\ncarry --1", "\nshut 0\ncarry -",
                     "\nshut 0\ncarry 1000000000", "\nshut 0\ncarry -1000000000", "\nshut 0\ncarry 1  1", "\nshut 0\ncarry -01",
                     "\nshut 0\ncarry +1", "\nshut 0\ncarry\n", "\nshut 0\n\ncarry", "\nshut 0\nCarry"):
            self.refused(self.entry(rest=rest))

    def test_every_sign_of_a_text_counts(self):
        lines = TEXT.split("\n")
        for at in range(len(lines)):
            self.refused("\n".join(lines[:at] + [""] + lines[at:]))
            self.refused("\n".join(lines[:at] + [" " + lines[at]] + lines[at + 1:]))
            self.refused("\n".join(lines[:at] + [lines[at] + " "] + lines[at + 1:]))
            doubled = "\n".join(lines[:at] + [lines[at].replace(" ", "  ", 1)] + lines[at + 1:])
            if doubled != TEXT:
                self.refused(doubled)
        self.refused(TEXT + "\n")


if __name__ == "__main__":
    unittest.main()
