"""Papers, closed lists, joining and trimming [13.1 to 13.3, 13.5 to 13.7, 13.9]."""

import unittest

from pressedwords.books import Book, Clash
from pressedwords.carries import Carries, whole
from pressedwords.errors import NotShut, OtherDeeds
from pressedwords.judging import judge_list
from pressedwords.nets import Net
from pressedwords.nettext import net_text, read_net
from pressedwords.papers import Entry, Paper, Shut, closed_list, join_papers, trim_paper
from pressedwords.stepping import guesses_of
from pressedwords.steps import told_step
from tests.helpers import Alien, caught, check_result, lot_for, root_of

ONE = lot_for([], 2)
AB = lot_for([".*ab.*"], 2)
EVEN = lot_for(["(aa|b)*"], 2)
# Nets that are shut, with the number of their books and whether some guess is shut by Carries.
SHUT = (
    (ONE, "aX=Xb", 1, False), (ONE, "bXYab=bbaY", 27, True), (ONE, "YYbb=bbbaY", 8, False), (ONE, "babaX=bXaaa", 4, True),
    (ONE, "abXZX=Xb", 24, True), (AB, "bXaaY=bbab", 4, True), (AB, "bbbaX=Xb", 3, False), (EVEN, "a=XaaY", 3, True),
    (EVEN, "XaaY=bba", 7, True), (EVEN, "bXX=XXa", 5, False),
)


def deeds_of_lot(lot):
    return tuple(deed for deed, _ in lot.table)


def net_for(lot, *rows, **given):
    net = Net([root_of(lot, row) for row in rows], lot, **given)
    net.run(1000)
    return net


def told_books(entry, lot):
    return [guess.told for guess in guesses_of(entry.book, entry.step, lot) if isinstance(guess.told, Book)]


class PaperTest(unittest.TestCase):
    def test_results(self):
        check_result(self, Entry, ["book", "step", "lots"])
        check_result(self, Shut, ["paper"])

    def test_tuples_of_the_two_sequences(self):
        book = root_of(ONE, "aX=Xb")
        entry = Entry(book, ("first", 0), ())
        deeds, entries = [(0,)], [entry]
        paper = Paper(deeds, entries)
        deeds.append((0,))
        entries.append(entry)
        self.assertEqual((paper.deeds, paper.entries), (((0,),), (entry,)))
        self.assertIs(type(paper.deeds), tuple)
        self.assertIs(type(paper.entries), tuple)
        self.assertIs(paper.entries[0], entry)

    def test_nothing_is_checked(self):
        paper = Paper(["deed", 7], [Entry("book", None, "lots")])
        self.assertEqual((paper.deeds, paper.entries), (("deed", 7), (Entry("book", None, "lots"),)))

    def test_books_length_iteration_membership(self):
        one, other = root_of(ONE, "aX=Xb"), root_of(ONE, "XYab=baYX")
        entries = (Entry(one, 0, 0), Entry(other, 0, 0), Entry(one, 1, 0))
        paper = Paper((), entries)
        self.assertEqual(paper.books, (one, other, one))
        self.assertEqual(len(paper), 3)
        self.assertEqual(list(paper), list(entries))
        self.assertEqual([entry for entry in paper], list(entries))
        self.assertIs(Book(one.rows, one.deeds, one.ends) in paper, True)
        self.assertIs(other in paper, True)
        for alien in (root_of(ONE, "XXab=baXX"), None, 0, entries[0], Alien(rows=one.rows, key=one.key)):
            self.assertIs(alien in paper, False)
        empty = Paper((), ())
        self.assertEqual((empty.books, len(empty), list(empty), one in empty), ((), 0, [], False))

    def test_equality(self):
        book = root_of(ONE, "aX=Xb")
        paper = Paper([(0,)], [Entry(book, ("first", 0), ())])
        self.assertTrue(paper == Paper(((0,),), (Entry(book, ("first", 0), ()),)))
        for other in (Paper([(0,), (1,)], paper.entries), Paper([(0,)], ()), Paper([(0,)], paper.entries * 2),
                      Paper([(0,)], [Entry(book, ("first", 1), ())]), Alien(deeds=paper.deeds, entries=paper.entries), None):
            self.assertFalse(paper == other)
            self.assertTrue(paper != other)


class ClosedListTest(unittest.TestCase):
    def test_only_shut_nets(self):
        going = Net([root_of(ONE, "bXYab=bbaY")], ONE)
        filled = net_for(ONE, "bXaab=bYY")
        for net in (going, filled):
            for known in (None, Paper(deeds_of_lot(ONE), ())):
                self.assertEqual(caught(NotShut, closed_list, net, known), ())
        going.run(1000)
        going.forget(0)
        self.assertEqual(caught(NotShut, closed_list, going), ())

    def test_one_entry_for_each_looked_book(self):
        for lot, row, many, carried in SHUT:
            for order in ("first", "last", (3, 1, 4)):
                net = net_for(lot, row, order=order)
                paper = closed_list(net)
                self.assertEqual(paper.deeds, deeds_of_lot(lot))
                self.assertEqual(paper.books, net.books)
                self.assertEqual(len(paper), many)
                for number, entry in enumerate(paper):
                    self.assertEqual(entry.step, told_step(net.books[number]))
                    due = tuple((place, told) for place, (_, told) in enumerate(net.outcomes_at(number))
                                if isinstance(told, Carries))
                    self.assertEqual(entry.lots, due)
                self.assertEqual(any(entry.lots for entry in paper), carried)
                self.assertIsNone(judge_list([root_of(lot, row)], paper, lot))

    def test_no_roots_and_clashes_alone(self):
        self.assertEqual(closed_list(Net([], ONE)), Paper([(0,)], ()))
        self.assertEqual(closed_list(Net([Clash("front", 0)], AB)), Paper(deeds_of_lot(AB), ()))

    def test_forgotten_and_looked_at_again(self):
        net = net_for(ONE, "bXYab=bbaY")
        paper = closed_list(net)
        for number in (5, 0):
            net.forget(number)
        net.run(5)
        self.assertEqual(closed_list(net), paper)

    def test_nets_that_were_read(self):
        for lot, row, _, _ in SHUT:
            net = net_for(lot, row, order="last")
            self.assertEqual(closed_list(read_net(net_text(net), lot)), closed_list(net))

    def test_known_papers(self):
        for lot, row, many, _ in SHUT:
            whole_net = net_for(lot, row)
            paper = closed_list(whole_net)
            root = root_of(lot, row)
            for number in range(len(paper)):
                known = trim_paper([paper.books[number]], paper, lot)
                net = net_for(lot, row, known=known.books)
                told = closed_list(net, known)
                self.assertIsNone(judge_list([root], told, lot))
                looked = closed_list(net)
                self.assertEqual(looked.entries, told.entries[:len(looked)])
                self.assertEqual(looked.books, tuple(net.books[at] for at in sorted(net.looked)))
                borrowed = [net.books[at] for at in net.borrowed]
                self.assertEqual(told, join_papers(looked, trim_paper(borrowed, known, lot)) if borrowed else looked)

    def test_known_papers_that_are_set_aside(self):
        row = "bXYab=bbaY"
        paper = closed_list(net_for(ONE, row))
        net = net_for(ONE, row, known=paper.books)
        self.assertEqual((net.borrowed, net.looked), ((0,), ()))
        self.assertEqual(closed_list(net, paper), paper)
        self.assertEqual(closed_list(net), Paper([(0,)], ()))
        self.assertEqual(closed_list(net, Paper([(0,), (0,)], paper.entries)), Paper([(0,)], ()))
        # Without borrowed books the known paper adds nothing.
        self.assertEqual(closed_list(net_for(ONE, "aX=Xb"), paper), closed_list(net_for(ONE, "aX=Xb")))

    def test_only_what_is_reached_of_the_known_paper(self):
        first = closed_list(net_for(ONE, "bXYab=bbaY"))
        second = closed_list(net_for(ONE, "aX=Xb"))
        known = join_papers(second, first)
        net = net_for(ONE, "bXYab=bbaY", known=known.books)
        self.assertEqual(closed_list(net, known), first)


class JoinTest(unittest.TestCase):
    def setUp(self):
        self.first = closed_list(net_for(ONE, "bXYab=bbaY"))
        self.second = closed_list(net_for(ONE, "abXZX=Xb"))

    def test_entries_of_one_and_then_of_the_other(self):
        for one, other in ((self.first, self.second), (self.second, self.first)):
            joined = join_papers(one, other)
            behind = tuple(entry for entry in other if entry.book not in one)
            self.assertEqual(joined, Paper([(0,)], one.entries + behind))
            roots = [root_of(ONE, "bXYab=bbaY"), root_of(ONE, "abXZX=Xb")]
            self.assertIsNone(judge_list(roots, joined, ONE))
        self.assertEqual(join_papers(self.first, self.first), self.first)

    def test_of_equal_books_the_first_entry_stays(self):
        one, other = self.first.entries[:2]
        again = Entry(one.book, ("block", (0,)), ())
        paper = Paper([(0,)], (one, other, again))
        self.assertEqual(join_papers(paper, Paper([(0,)], (again,))), Paper([(0,)], (one, other)))
        self.assertEqual(join_papers(Paper([(0,)], (again,)), paper), Paper([(0,)], (again, other)))

    def test_other_deeds(self):
        empty = Paper([(0,)], ())
        self.assertEqual(join_papers(empty, self.first), self.first)
        self.assertEqual(join_papers(self.first, empty), self.first)
        for other in (Paper((), ()), Paper([(0,), (0,)], ()), Paper([(1,)], self.second.entries)):
            self.assertEqual(caught(OtherDeeds, join_papers, self.first, other), ())
            self.assertEqual(caught(OtherDeeds, join_papers, other, empty), ())


class TrimTest(unittest.TestCase):
    def reached(self, books, paper, lot):
        keys = {book.key for book in books if isinstance(book, Book)}
        while True:
            more = {told.key for entry in paper if entry.book.key in keys for told in told_books(entry, lot)}
            if more <= keys:
                return Paper(paper.deeds, [entry for entry in paper if entry.book.key in keys])
            keys |= more

    def test_what_is_reached(self):
        for lot, row, _, _ in SHUT:
            paper = closed_list(net_for(lot, row))
            backward = Paper(paper.deeds, paper.entries[::-1])
            for book in paper.books:
                for given in (paper, backward):
                    trimmed = trim_paper((book,), given, lot)
                    self.assertEqual(trimmed, self.reached([book], given, lot))
                    self.assertEqual(trim_paper([book], trimmed, lot), trimmed)
                    self.assertIsNone(judge_list([book], trimmed, lot))

    def test_clashes_and_books_that_are_not_listed(self):
        paper = closed_list(net_for(ONE, "bXYab=bbaY"))
        alien = root_of(ONE, "XXab=baXX")
        self.assertNotIn(alien, paper)
        self.assertEqual(trim_paper([Clash("front", 0), alien], paper, ONE), Paper([(0,)], ()))
        self.assertEqual(trim_paper([], paper, ONE), Paper([(0,)], ()))
        mixed = [alien, Clash("state", 0), paper.books[-1], paper.books[3]]
        self.assertEqual(trim_paper(mixed, paper, ONE), self.reached(mixed, paper, ONE))

    def test_a_told_book_whose_equations_have_no_answer_is_reached_too(self):
        paper = closed_list(net_for(ONE, "babaX=bXaaa"))
        entry = next(entry for entry in paper if entry.lots)
        guesses = list(guesses_of(entry.book, entry.step, ONE))
        place = entry.lots[0][0]
        self.assertIsInstance(whole(guesses[place].equations), Carries)
        told = guesses[place].told
        further = Entry(told, told_step(told), ())
        self.assertNotIn(told, paper)
        wide = Paper(paper.deeds, paper.entries + (further,))
        self.assertIn(told, trim_paper([entry.book], wide, ONE))

    def test_doubled_entries(self):
        paper = closed_list(net_for(ONE, "bXYab=bbaY"))
        doubled = Paper(paper.deeds, paper.entries + paper.entries)
        self.assertEqual(trim_paper([paper.books[0]], doubled, ONE), self.reached([paper.books[0]], doubled, ONE))


class ExampleTest(unittest.TestCase):
    def test_example(self):
        book = Book([((-1, 0), (1, -1))], [(0,), (0,)], [(0, (0,))])
        self.assertEqual(told_books(Entry(book, ("first", 0), ()), ONE), [book])
        paper = Paper([(0,)], [Entry(book, ("first", 0), ())])
        self.assertIsNone(judge_list([book], paper, ONE))
        self.assertEqual(closed_list(net_for(ONE, "Xa=bX")), paper)


if __name__ == "__main__":
    unittest.main()
