"""Settled books [5.1, 5.2]."""

import random
import unittest

from pressedwords.books import Book, Clash
from pressedwords.settling import Settled, settle, start_of
from pressedwords.tidying import canon, tidy
from tests.helpers import check_result, holds_list, lot_for

# States of LOT: 0 with nothing read yet but letters b, 1 behind an a, 2 behind an ab. Texts never lead back.
LOT = lot_for([".*ab.*"], 2)
A, B = LOT.letter_deed("a"), LOT.letter_deed("b")
ALL = (0, 1, 2)


class SettledTest(unittest.TestCase):
    def test_is_a_result(self):
        check_result(self, Settled, ["told", "letters", "unknowns", "spares"])


class SettleTest(unittest.TestCase):
    def clash(self, why, at):
        return Settled(Clash(why, at), (), (), ())

    def test_clashes_of_tidy_are_told_as_they_are(self):
        ends = ((2, (0,)),)
        for rows, told in (([((0,), (0,)), ((0, -1), (1,))], Clash("front", 1)),
                           ([((-1, 0), (-1, 0, 1))], Clash("empty", 0)),
                           ([((-1, 0), (0, -1, 1))], Clash("back", 0))):
            book = Book(rows, (A, B), ends, 3)
            self.assertEqual(settle(book, (), LOT), Settled(told, (), (), ()))
            self.assertEqual(settle(book, [0], LOT), Settled(told, (), (), ()))

    def test_unknowns_without_a_text_clash_in_a_row_or_not(self):
        good, bad, empty = (0, (2,)), (2, (0, 1)), (0, ())
        row = ((-1, 0), (0, -1))
        self.assertEqual(start_of(Book([row], (A,), (good, bad), 3), LOT), self.clash("state", 1))
        self.assertEqual(start_of(Book([row], (A,), (bad, good), 3), LOT), self.clash("state", 0))
        self.assertEqual(start_of(Book([], (), (good, good, empty, bad), 3), LOT), self.clash("state", 2))
        self.assertEqual(start_of(Book([], (), (bad, empty), 3), LOT), self.clash("state", 0))

    def test_texts_that_are_not_empty_are_asked_for(self):
        once = lot_for(["a"], 1)
        self.assertEqual(start_of(Book([], (), ((0, (0,)),), once.states), once), self.clash("state", 0))
        self.assertEqual(start_of(Book([], (), ((0, (1,)),), once.states), once).spares, ((0, (0, (1,))),))

    def test_unknowns_that_are_gone_are_not_asked(self):
        book = Book([((-2, 0), (0, -2))], (A,), ((2, (0,)), (0, (2,)), (1, ()), (0, (1,)), (2, (1,))), 3)
        told = settle(book, [4, 0, 2], LOT)
        self.assertEqual(told.told, Book([((-1, 0), (0, -1))], (A,), ((0, (2,)),), 3))
        self.assertEqual((told.letters, told.unknowns), ((0,), (1,)))
        self.assertEqual(told.spares, ((3, (0, (1,))),))
        for gone in ((0, 2, 4), (2, 4, 0), [2, 0, 4, 4]):
            self.assertEqual(settle(book, gone, LOT), told)
        self.assertEqual(settle(book, (0, 4), LOT), self.clash("state", 2))
        self.assertEqual(settle(book, (2, 0), LOT), self.clash("state", 4))

    def test_gone_stays(self):
        gone = [1, 0]
        settle(Book([], (), ((0, ()), (0, ())), 3), gone, LOT)
        self.assertEqual(gone, [1, 0])

    def test_spares_ascend_with_the_ends_passed_in(self):
        ends = ((1, ALL), (0, (1, 2)), (2, ALL), (0, ALL))
        # Unknown 1 stands in a row of the book, but in none of the tidied one.
        book = Book([((-2, 0, -4), (-2, -4, 0))], (A, B), ends, 3)
        told = start_of(book, LOT)
        self.assertEqual(told.told, Book([((0, -1), (-1, 0))], (A,), ((0, ALL),), 3))
        self.assertEqual((told.letters, told.unknowns), ((0,), (3,)))
        self.assertEqual(told.spares, ((0, (1, ALL)), (1, (0, (1, 2))), (2, (2, ALL))))
        self.assertFalse(holds_list((told.letters, told.unknowns, told.spares)))

    def test_old_numbers_of_letters_and_unknowns(self):
        book = Book([((-3, 1), (0, -1)), ((-1, -3, 1), (0, -1, -3))], (A, B), ((1, (2,)), (0, ALL), (0, (2,))), 3)
        told = start_of(book, LOT)
        self.assertEqual(told.told.rows, (((-1, 0), (1, -2)), ((-2, -1, 0), (1, -2, -1))))
        self.assertEqual(told.letters, (1, 0))
        self.assertEqual(told.unknowns, (2, 0))
        self.assertEqual(told.told.deeds, (B, A))
        self.assertEqual(told.told.ends, ((0, (2,)), (1, (2,))))
        self.assertEqual(told.spares, ((1, (0, ALL)),))

    def test_a_book_without_rows(self):
        self.assertEqual(start_of(Book([], (A, B), (), 3), LOT), Settled(Book((), (), (), 3), (), (), ()))
        book = Book([((-1,), (-1,))], (A,), ((1, ALL),), 3)
        self.assertEqual(start_of(book, LOT), Settled(Book((), (), (), 3), (), (), ((0, (1, ALL)),)))
        self.assertEqual(settle(Book([], (A,), ((1, ALL),), 3), (0,), LOT), Settled(Book((), (), (), 3), (), (), ()))

    def test_start_of_is_settle_with_nothing_gone_and_settles_once_and_for_all(self):
        chance = random.Random(1)
        books = 0
        for _ in range(300):
            rows = [[[chance.choice((0, 1, -1, -2, -3)) for _ in range(chance.randint(0, 4))] for _ in range(2)]
                    for _ in range(chance.randint(0, 2))]
            ends = [(chance.randrange(3), tuple(sorted(chance.sample(ALL, chance.randint(1, 3))))) for _ in range(3)]
            book = Book(rows, (A, B), ends, 3)
            told = start_of(book, LOT)
            self.assertEqual(told, settle(book, (), LOT))
            dead = [number for number in range(3) if LOT.path_text(*ends[number]) is None]
            tidied = tidy(book)
            if isinstance(tidied, Clash):
                self.assertEqual(told, Settled(tidied, (), (), ()))
            elif dead:
                self.assertEqual(told, self.clash("state", dead[0]))
            else:
                books += 1
                self.assert_settled(tidied, told)
        self.assertGreater(books, 30)

    def assert_settled(self, tidied, told):
        self.assertEqual(told.told, canon(tidied).book)
        self.assertEqual(sorted(told.unknowns + tuple(number for number, _ in told.spares)), [0, 1, 2])
        again = start_of(told.told, LOT)
        self.assertEqual(again.told, told.told)
        self.assertEqual(again.letters, tuple(range(len(told.letters))))
        self.assertEqual(again.unknowns, tuple(range(len(told.unknowns))))
        self.assertEqual(again.spares, ())
        for left, right in told.told.rows:
            self.assertTrue(left and right)
            for one, other in ((left[0], right[0]), (left[-1], right[-1])):
                self.assertTrue(one != other and min(one, other) < 0)


if __name__ == "__main__":
    unittest.main()
