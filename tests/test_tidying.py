"""Tidy and canonical books [1.7, 1.8]."""

import random
import unittest
from itertools import product

from pressedwords.books import Book, Clash
from pressedwords.tidying import Canon, canon, tidy
from tests.helpers import check_result, holds_list, rows_up_to


def one_state_book(*rows, letters=3, unknowns=3):
    return Book(rows, ((0,),) * letters, ((0, (0,)),) * unknowns)


def fillings(book, length):
    """The fillings of a book with one state by short texts of its own letters."""
    texts = rows_up_to(range(len(book.deeds)), length)
    found = set()
    for choice in product(texts, repeat=len(book.ends)):
        if all(filled(left, choice) == filled(right, choice) for left, right in book.rows):
            found.add(choice)
    return found


def filled(side, choice):
    return [letter for sign in side for letter in ((sign,) if sign >= 0 else choice[-1 - sign])]


def random_book(chance, letters, unknowns, sides):
    signs = list(range(letters)) + [-1 - number for number in range(unknowns)]
    rows = [tuple(tuple(chance.choice(signs) for _ in range(chance.randint(0, sides))) for _ in range(2))
            for _ in range(chance.randint(0, 3))]
    return one_state_book(*rows, letters=letters, unknowns=unknowns)


class TidyTest(unittest.TestCase):
    def assert_tidy(self, rows, told):
        book = one_state_book(*rows)
        self.assertEqual(tidy(book), told if isinstance(told, Clash) else one_state_book(*told))
        self.assertEqual(book, one_state_book(*rows))

    def test_takes_equal_signs_off_front_and_back(self):
        self.assert_tidy([((0, 1, -1, 2), (0, 1, 0, -2, 2))], [((-1,), (0, -2))])
        self.assert_tidy([((-1, -2, 0, -3), (-1, 0, -2, -3))], [((-2, 0), (0, -2))])
        self.assert_tidy([((-1, 0), (0, -1))], [((-1, 0), (0, -1))])

    def test_front_comes_before_back(self):
        # All of the shorter side goes in front, so nothing is left to take off behind.
        self.assert_tidy([((-1, -1, 0, -1), (-1,))], Clash("empty", 0))
        self.assert_tidy([((0, -1), (0, 0, -1))], Clash("empty", 0))
        self.assert_tidy([((-1, -2, -1), (-1, -1))], Clash("empty", 0))

    def test_rows_with_equal_sides_vanish(self):
        self.assert_tidy([((), ())], [])
        self.assert_tidy([((0, -1), (0, -1)), ((-1,), (0,)), ((-2,), (-2,))], [((-1,), (0,))])
        self.assert_tidy([], [])

    def test_clashes_tell_the_number_of_the_given_row(self):
        self.assert_tidy([((0,), (0,)), ((0, -1), (1, -1, 2))], Clash("front", 1))
        self.assert_tidy([((), ()), ((-1,), (-2,)), ((-1, 0), (-2, 1))], Clash("back", 2))
        self.assert_tidy([((0,), (0,)), ((0, 0), (0,))], Clash("empty", 1))
        self.assert_tidy([((), (-1, 0))], Clash("empty", 0))
        self.assert_tidy([((0,), (1,))], Clash("front", 0))
        self.assert_tidy([((0, -1, 0), (1, -2, 1))], Clash("front", 0))

    def test_one_side_that_ends_alike_but_begins_with_an_unknown(self):
        self.assert_tidy([((-1, 1), (0, 1))], [((-1,), (0,))])
        self.assert_tidy([((0, -1), (-2, 1))], [((0, -1), (-2, 1))])

    def test_the_first_clash_of_several_is_told(self):
        self.assert_tidy([((-1, 0), (-2, 1)), ((0,), (1,)), ((), (0,))], Clash("back", 0))
        self.assert_tidy([((), (0,)), ((0,), (1,))], Clash("empty", 0))

    def test_deeds_ends_and_states_stay(self):
        book = Book((((0, -2), (0, 1)),), ((0, 0), (1, 0)), ((1, ()), (0, (0, 1))), 2)
        self.assertEqual(tidy(book).key, ((((-2,), (1,)),), book.deeds, book.ends, 2))
        self.assertFalse(holds_list(tidy(book).key))

    def test_fillings_stay_and_a_tidy_book_stays_itself(self):
        chance = random.Random(7)
        clashes = 0
        for _ in range(300):
            book = random_book(chance, 2, 2, 3)
            told = tidy(book)
            if isinstance(told, Clash):
                clashes += 1
                self.assertEqual(fillings(book, 3), set())
            else:
                self.assertEqual(fillings(book, 3), fillings(told, 3))
                self.assertEqual(tidy(told), told)
                for left, right in told.rows:
                    self.assertTrue(left and right and left[0] != right[0] and left[-1] != right[-1])
                    self.assertTrue(min(left[0], right[0]) < 0 and min(left[-1], right[-1]) < 0)
        self.assertGreater(clashes, 30)


class CanonTest(unittest.TestCase):
    def test_is_a_result(self):
        check_result(self, Canon, ["book", "letters", "unknowns"])

    def test_rows_that_an_earlier_one_tells_are_dropped(self):
        one = ((-1, 0), (0, -1))
        other = ((-1,), (0, 0))
        book = one_state_book(one, other, one, one[::-1], other[::-1], letters=1, unknowns=1)
        told = canon(book)
        self.assertEqual(told.book, one_state_book(one, other, letters=1, unknowns=1))
        self.assertEqual((told.letters, told.unknowns), ((0,), (0,)))

    def test_numbers_go_by_first_place_left_side_first(self):
        deeds = ((0, 0), (0, 1), (1, 0), (1, 1))
        ends = ((0, (0,)), (1, (0,)), (0, (1,)), (1, (1,)))
        book = Book((((-3, 2), (3, -1)), ((-4, -3), (0, 2))), deeds, ends, 2)
        told = canon(book)
        self.assertEqual(told.book.rows, (((-1, 0), (1, -2)), ((-3, -1), (2, 0))))
        self.assertEqual(told.letters, (2, 3, 0))
        self.assertEqual(told.unknowns, (2, 0, 3))
        self.assertEqual(told.book.deeds, ((1, 0), (1, 1), (0, 0)))
        self.assertEqual(told.book.ends, ((0, (1,)), (0, (0,)), (1, (1,))))
        self.assertEqual(told.book.states, 2)
        self.assertFalse(holds_list((told.book.key, told.letters, told.unknowns)))

    def test_signs_that_stand_in_no_row_are_lost(self):
        told = canon(Book((), ((0, 1),), ((1, (0,)),), 2))
        self.assertEqual(told, Canon(Book((), (), (), 2), (), ()))
        told = canon(one_state_book(((-2,), (2,))))
        self.assertEqual(told, Canon(one_state_book(((-1,), (0,)), letters=1, unknowns=1), (2,), (1,)))

    def test_start_is_0_where_the_goals_are_all_states(self):
        ends = ((2, (0, 1, 2)), (2, (0, 2)), (1, (0, 1, 2)))
        told = canon(Book((((-1, -2), (-2, -1)),), (), ends, 3))
        self.assertEqual(told.book.ends, ((0, (0, 1, 2)), (2, (0, 2))))

    def test_huge_states_are_not_gone_through(self):
        told = canon(Book((((-1, -2), (-2, -1)),), (), ((5, (7,)), (6, ())), 10 ** 9))
        self.assertEqual(told.book.ends, ((5, (7,)), (6, ())))

    def test_books_that_differ_by_numbers_alone_have_one_canonical_book(self):
        chance = random.Random(11)
        for _ in range(200):
            book = tidy(random_book(chance, 3, 3, 4))
            if isinstance(book, Clash):
                continue
            told = canon(book)
            self.assertEqual(canon(told.book).book, told.book)
            self.assertEqual(canon(told.book).letters, tuple(range(len(told.letters))))
            letters, unknowns = [1, 2, 0], [2, 0, 1]
            rows = [[[letters[sign] if sign >= 0 else -1 - unknowns[-1 - sign] for sign in side] for side in row]
                    for row in book.rows]
            moved = canon(one_state_book(*rows))
            self.assertEqual(moved.book, told.book)
            self.assertEqual(moved.letters, tuple(letters[old] for old in told.letters))
            self.assertEqual(moved.unknowns, tuple(unknowns[old] for old in told.unknowns))


if __name__ == "__main__":
    unittest.main()
