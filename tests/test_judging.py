"""The judge of closed lists [13.4, 13.9]."""

import unittest

from pressedwords.books import Book, Clash
from pressedwords.carries import Carries
from pressedwords.judging import judge_list
from pressedwords.nets import Net
from pressedwords.papers import Entry, Paper, closed_list
from pressedwords.stepping import guesses_of
from tests.helpers import as_lists, lot_for, root_of

ONE = lot_for([], 2)
AB = lot_for([".*ab.*"], 2)
EVEN = lot_for(["(aa|b)*"], 2)
LOOP = Book([((-1, 0), (1, -1))], [(0,), (0,)], [(0, (0,))])
ENTRY = Entry(LOOP, ("first", 0), ())


def closed(lot, row):
    net = Net([root_of(lot, row)], lot)
    net.run(1000)
    return root_of(lot, row), closed_list(net)


def paper_of(*entries, lot=ONE):
    return Paper([deed for deed, _ in lot.table], entries)


def with_entry(paper, at, entry):
    return Paper(paper.deeds, paper.entries[:at] + (entry,) + paper.entries[at + 1:])


def open_places(entry, listed):
    """The places of guesses that tell neither a Clash nor one of the listed books."""
    return [place for place, guess in enumerate(guesses_of(entry.book, entry.step, ONE))
            if isinstance(guess.told, Book) and guess.told not in listed]


class ClosedTest(unittest.TestCase):
    def test_example(self):
        self.assertIsNone(judge_list([LOOP], paper_of(ENTRY), ONE))
        self.assertIsNone(judge_list([], paper_of(ENTRY), ONE))
        self.assertIsNone(judge_list([Clash("front", 0), LOOP, LOOP], paper_of(ENTRY), ONE))
        self.assertIsNone(judge_list((), paper_of(), ONE))
        self.assertIsNone(judge_list([Clash("state", 3)], paper_of(lot=AB), AB))

    def test_lists_of_shut_nets(self):
        for lot, row in ((ONE, "bXYab=bbaY"), (ONE, "babaX=bXaaa"), (AB, "bXaaY=bbab"), (EVEN, "XaaY=bba")):
            root, paper = closed(lot, row)
            self.assertIsNone(judge_list([root], paper, lot))
            backward = Paper(paper.deeds, paper.entries[::-1])
            self.assertIsNone(judge_list([root] + list(paper.books), backward, lot))

    def test_steps_that_are_not_told(self):
        root = root_of(ONE, "aX=Xb")
        for step in (("first", 0), ["first", 0]):
            self.assertIsNone(judge_list([root], paper_of(Entry(root, step, ())), ONE))
        root, paper = closed(ONE, "bXYab=bbaY")
        self.assertGreater(len({entry.step[0] for entry in paper}), 1)
        as_list = Paper(paper.deeds, [Entry(entry.book, as_lists(entry.step), entry.lots) for entry in paper])
        self.assertIsNone(judge_list([root], as_list, ONE))

    def test_entries_that_nothing_leads_to(self):
        root, paper = closed(ONE, "bXYab=bbaY")
        self.assertIsNone(judge_list([paper.books[-1]], paper, ONE))

    def test_a_list_of_a_book_that_can_be_filled_is_never_taken(self):
        for row in ("aX=Xa", "bXaab=bYY", "XY=YX"):
            root = root_of(ONE, row)
            net = Net([root], ONE)
            net.run(1000)
            for steps in (1, 2, 20):
                books = [book for book in net.books if book.rows][:steps]
                entries = [Entry(book, look, ()) for book in books for look in [("first", 0)]]
                self.assertIsNotNone(judge_list([root], paper_of(*entries), ONE))


class FaultTest(unittest.TestCase):
    def test_deeds(self):
        for deeds in ((), [(0,), (0,)], [(1,)], [0]):
            self.assertEqual(judge_list([LOOP], Paper(deeds, [ENTRY, ENTRY]), ONE), ("deeds",))
        table = [deed for deed, _ in AB.table]
        self.assertEqual(judge_list([], Paper(table[::-1], ()), AB), ("deeds",))
        self.assertEqual(judge_list([], Paper(table[:-1], ()), AB), ("deeds",))
        self.assertIsNone(judge_list([], Paper(table, ()), AB))

    def test_double(self):
        other = Entry(LOOP, None, None)
        self.assertEqual(judge_list([LOOP], paper_of(ENTRY, ENTRY), ONE), ("double", 1))
        self.assertEqual(judge_list([LOOP], paper_of(ENTRY, other, ENTRY), ONE), ("double", 1))
        # The faults of an entry come ahead of those of the entries behind it.
        self.assertEqual(judge_list([LOOP], paper_of(Entry(LOOP, None, ()), ENTRY), ONE), ("step", 0))

    def test_alien(self):
        wide = Book([((-1, 0), (1, -1))], [(0, 0), (0, 0)], [(0, (0,))], 2)
        self.assertEqual(judge_list([], paper_of(ENTRY, Entry(wide, None, None)), ONE), ("alien", 1))
        bare = Book([((-1,), (-2,))], [], [(0, (0,)), (0, (0,))], 2)
        self.assertEqual(judge_list([], paper_of(ENTRY, Entry(bare, None, None)), ONE), ("alien", 1))
        deeds = [deed for deed, _ in AB.table]
        outside = next(deed for deed in ((a, b, c) for a in range(3) for b in range(3) for c in range(3))
                       if deed not in deeds)
        strange = Book([((-1, 0), (0, -1))], [outside], [(0, (0,))], 3)
        self.assertEqual(judge_list([], paper_of(Entry(strange, None, None), lot=AB), AB), ("alien", 0))
        self.assertEqual(judge_list([], paper_of(Entry(wide, None, None), Entry(wide, None, None)), ONE), ("alien", 0))
        self.assertEqual(judge_list([], paper_of(ENTRY, Entry(LOOP, None, ()), Entry(wide, 0, 0)), ONE), ("double", 1))

    def test_unsettled(self):
        for book in (Book([((-1, 1), (0, -1))], [(0,), (0,)], [(0, (0,))]),
                     Book([((-1, 0), (1, -1))], [(0,), (0,), (0,)], [(0, (0,))]),
                     Book([((0, -1, 0), (0, 1, -1))], [(0,), (0,)], [(0, (0,))]),
                     Book([((0,), (1,))], [(0,), (0,)], []),
                     Book([((-1, 0), (1, -1))], [(0,), (0,)], [(0, ())]),
                     Book([], [(0,)], [])):
            self.assertEqual(judge_list([], paper_of(ENTRY, Entry(book, None, None)), ONE), ("unsettled", 1))

    def test_filled(self):
        empty = Book((), (), ())
        self.assertEqual(judge_list([LOOP], paper_of(ENTRY, Entry(empty, None, ())), ONE), ("filled", 1))
        self.assertEqual(judge_list([empty], paper_of(Entry(empty, ("first", 0), ())), ONE), ("filled", 0))

    def test_step(self):
        for step in (None, (), 1, "first", ("first",), ("first", 1), ("first", -1), ("first", True), ("second", 0),
                     ("block", (0,)), ("pair", (0,), (1,)), {"first": 0}):
            self.assertEqual(judge_list([LOOP], paper_of(Entry(LOOP, step, ())), ONE), ("step", 0), step)

    def test_open(self):
        root, paper = closed(ONE, "bXYab=bbaY")
        for at in range(1, len(paper)):
            # Without one entry, some entry is open that leads to its book.
            some = Paper(paper.deeds, paper.entries[:at] + paper.entries[at + 1:])
            told = judge_list([root], some, ONE)
            self.assertEqual(told[0], "open")
            entry = some.entries[told[1]]
            shut = [place for place, _ in entry.lots]
            places = [place for place in open_places(entry, some.books) if place not in shut]
            self.assertEqual(told[2], places[0])
            for number in range(told[1]):
                left = open_places(some.entries[number], some.books)
                self.assertTrue({place for place, _ in some.entries[number].lots}.issuperset(left))

    def test_carries(self):
        root, paper = closed(ONE, "babaX=bXaaa")
        at = next(at for at, entry in enumerate(paper) if entry.lots)
        entry = paper.entries[at]
        place, carries = entry.lots[0]
        self.assertIn(place, open_places(entry, paper.books))
        wrong = Carries(carries.rows + ((0,) * len(carries.rows[0]),))
        for lots, fault in (((), "open"), (((place, wrong),), "carries"), (((place, Carries(())),), "carries"),
                            (((place, Carries(None)),), "carries"), (((place, wrong), (place, carries)), "carries"),
                            (((place, carries), (place, wrong)), None), (((place + 1, carries),), "open"),
                            (((0, Carries(7)), (10 ** 6, Carries("x")), (place, carries)), None)):
            told = judge_list([root], with_entry(paper, at, Entry(entry.book, entry.step, lots)), ONE)
            self.assertEqual(told, None if fault is None else (fault, at, place), lots)

    def test_the_first_guess_counts(self):
        root, paper = closed(EVEN, "XaaY=bba")
        at = next(at for at, entry in enumerate(paper) if len(entry.lots) > 1)
        entry = paper.entries[at]
        wrong = Carries(())
        (first, carries), (second, _) = entry.lots[:2]
        rest = entry.lots[2:]
        for lots, fault in ((((first, wrong),) + rest, ("carries", at, first)),
                            (((second, wrong),) + rest, ("open", at, first)),
                            (((first, carries), (second, wrong)) + rest, ("carries", at, second)),
                            (((first, carries),) + rest, ("open", at, second)),
                            (((second, wrong), (first, wrong)) + rest, ("carries", at, first))):
            told = judge_list([root], with_entry(paper, at, Entry(entry.book, entry.step, lots)), EVEN)
            self.assertEqual(told, fault)

    def test_carries_beside_a_listed_book_are_not_looked_at(self):
        for lots in (((0, Carries(())), (1, Carries(())), (1, Carries(None))), ((1, Carries([[0]])),)):
            self.assertIsNone(judge_list([LOOP], paper_of(Entry(LOOP, ("first", 0), lots)), ONE))

    def test_root(self):
        other = root_of(ONE, "bXYab=bbaY")
        for books, place in (([other], 0), ([LOOP, Clash("front", 0), other, other], 2),
                             ([Clash("back", 1), Book((), (), ())], 1)):
            self.assertEqual(judge_list(books, paper_of(ENTRY), ONE), ("root", place))
        # A root that is not listed comes behind every fault of an entry.
        self.assertEqual(judge_list([other], paper_of(ENTRY, ENTRY), ONE), ("double", 1))
        self.assertEqual(judge_list([LOOP], paper_of(), ONE), ("root", 0))


if __name__ == "__main__":
    unittest.main()
