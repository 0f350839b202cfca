"""Books of equations [0.1 to 0.3, 1.1 to 1.6]."""

import unittest
from copy import deepcopy

from pressedwords.books import (Book, Clash, is_sequence, is_whole, letter_places, neighbours, size_bound,
                                unknown_places)
from pressedwords.errors import BadBook
from tests.helpers import Alien, as_lists, caught, check_result, holds_list

DEEDS = ((0, 1, 1), (1, 1, 2))
ENDS = ((0, (0, 2)), (2, ()), (1, (0, 1, 2)))
ROWS = (((0, 1, -1), (-2, 1)), ((), (-3, -3)))


class KindsTest(unittest.TestCase):
    def test_whole_numbers_are_ints_but_true_and_false(self):
        for thing in (0, 1, -1, 10 ** 40):
            self.assertIs(is_whole(thing), True)
        for thing in (True, False, 1.0, "1", None, (1,), [1], b"1"):
            self.assertIs(is_whole(thing), False)

    def test_sequences_are_lists_and_tuples(self):
        for thing in ((), [], (1,), [1, 2]):
            self.assertIs(is_sequence(thing), True)
        for thing in ("", "ab", b"ab", {}, {1: 2}, {1}, range(2), None, 3, iter(())):
            self.assertIs(is_sequence(thing), False)


class BookTest(unittest.TestCase):
    def test_keeps_its_attributes_as_tuples(self):
        for form in (tuple, list):
            book = Book(*[form(thing) for thing in (ROWS, DEEDS, ENDS)], 3)
            self.assertEqual((book.rows, book.deeds, book.ends, book.states), (ROWS, DEEDS, ENDS, 3))
        book = Book(as_lists(ROWS), as_lists(DEEDS), as_lists(ENDS), states=3)
        self.assertEqual(book.key, (ROWS, DEEDS, ENDS, 3))
        self.assertFalse(holds_list(book.key))
        self.assertIs(type(book.key), tuple)

    def test_what_is_passed_in_stays_and_may_change_later(self):
        given = [as_lists(ROWS), as_lists(DEEDS), as_lists(ENDS)]
        before = deepcopy(given)
        book = Book(*given, 3)
        self.assertEqual(given, before)
        given[0][0][0].append(0)
        given[0].append([[0], [1]])
        given[1][0][0] = 2
        given[2][0][1].pop()
        given[2].clear()
        self.assertEqual(book.key, (ROWS, DEEDS, ENDS, 3))

    def test_states_are_one_by_default(self):
        book = Book([], [[0]], [(0, [0]), (0, [])])
        self.assertEqual(book.key, ((), ((0,),), ((0, (0,)), (0, ())), 1))

    def test_what_is_allowed(self):
        self.assertEqual(Book((), (), ()).key, ((), (), (), 1))
        self.assertEqual(Book([[[], []]], [], []).rows, (((), ()),))
        self.assertEqual(Book([((), [0, 0])], [(0,)], []).rows, (((), (0, 0)),))
        self.assertEqual(Book([], [], [], 10 ** 30).states, 10 ** 30)
        self.assertEqual(Book([([-3], [1])], [(0,), (0,)], [(0, ())] * 3).rows, (((-3,), (1,)),))

    def assert_bad(self, what, *given):
        self.assertEqual(caught(BadBook, Book, *given), (what,))

    def test_wrong_states(self):
        for states in (0, -1, True, False, "1", "two", 1.0, None, (1,)):
            self.assert_bad("states", (), (), (), states)

    def test_wrong_deeds(self):
        for deeds in (None, "", {}, 0, range(0)):
            self.assert_bad("deeds", (), deeds, (), 2)
        for deed in (None, "01", (), (0,), (0, 1, 1), (0, 2), (-1, 0), (True, 0), (0, False), (0, "1"), 1, {0: 1}):
            self.assert_bad("deeds", (), ((0, 0), deed), (), 2)
        self.assert_bad("deeds", (), ((0,),), (), 10 ** 30)

    def test_wrong_ends(self):
        for ends in (None, "", {}, 0):
            self.assert_bad("ends", (), (), ends, 3)
        for one in (None, "0", (), (0,), (0, (), ()), (3, ()), (-1, ()), (True, ()), (False, ()), (None, ()),
                    ("0", ()), ((0,), ()), (0, None), (0, 0), (0, "012"), (0, (3,)), (0, (-1,)), (0, (True,)),
                    (0, (0, "1")), (0, (1, 0)), (0, (0, 2, 1)), (0, (1, 1)), (0, (0, 0)), (0, {0: 1})):
            self.assert_bad("ends", (), (), ((0, (0, 1, 2)), one), 3)

    def test_wrong_rows(self):
        for rows in (None, "", {}, 0):
            self.assert_bad("rows", rows, ((0,),), ((0, ()),))
        for row in (None, "00", (), ((0,),), ((0,), (0,), (0,)), ((0,), None), ((0,), 0), (0, (0,)), ((0,), "0"),
                    ((True,), (0,)), ((0,), (False,)), ((0,), (0.0,)), (((0,),), (0,)), ((None,), ())):
            self.assert_bad("rows", (((0,), (-1,)), row), ((0,),), ((0, ()),))

    def test_signs_without_deed_or_ends(self):
        for row in (((1,), ()), ((), (0, 1)), ((-2,), (0,)), ((0, -1), (-1, -2)), ((10 ** 30,), ())):
            self.assert_bad("sign", (((0,), (-1,)), row), ((0,),), ((0, ()),))
        self.assert_bad("sign", [[[0], []]], [], [])
        self.assert_bad("sign", [[[], [-1]]], [], [])

    def test_of_several_faults_the_first_word_is_told(self):
        good = {"rows": (((0,), (-1,)),), "deeds": ((0,),), "ends": ((0, (0,)),), "states": 1}
        bad = {"states": 0, "deeds": ((1,),), "ends": ((0, (0, 0)),), "rows": ((0, 0),), "sign": (((7,), ()),)}
        words = ["states", "deeds", "ends", "rows", "sign"]
        for at, first in enumerate(words[:-1]):
            for second in words[at + 1:]:
                given = dict(good)
                for word in (first, second):
                    if not (word == "sign" and first == "rows"):
                        given["rows" if word == "sign" else word] = bad[word]
                if (first, second) == ("rows", "sign"):
                    given["rows"] = (((7,), ()), (0, 0))
                self.assert_bad(first, given["rows"], given["deeds"], given["ends"], given["states"])

    def test_equal_books(self):
        def book(rows=ROWS, deeds=DEEDS, ends=ENDS, states=3):
            return Book(rows, deeds, ends, states)
        self.assertTrue(book() == Book(as_lists(ROWS), as_lists(DEEDS), as_lists(ENDS), 3))
        self.assertFalse(book() != book())
        for other in (book(rows=ROWS[:1]), book(rows=ROWS[::-1]), book(deeds=DEEDS + DEEDS),
                      book(ends=ENDS + ENDS), book(ends=ENDS[::-1])):
            self.assertFalse(book() == other)
            self.assertTrue(book() != other)
        self.assertNotEqual(Book((), (), (), 1), Book((), (), (), 2))
        for alien in (book().key, Alien(**vars(book()), key=book().key), None, Clash("front", 0)):
            self.assertFalse(book() == alien)
            self.assertTrue(book() != alien)


class ClashTest(unittest.TestCase):
    def test_is_a_result(self):
        check_result(self, Clash, ["why", "at"])


class CountsTest(unittest.TestCase):
    def book(self, *rows):
        return Book(rows, ((0,),) * 4, ((0, (0,)),) * 3)

    def test_counts(self):
        book = self.book(((0, 1, -1), (-2, 1, 1)), ((), (-1, -1, 3)), ((), ()))
        self.assertEqual(letter_places(book), 5)
        self.assertEqual(unknown_places(book), 4)
        self.assertEqual(size_bound(book), 17 * 4 + 2 * 3)

    def test_counts_without_rows(self):
        book = self.book()
        self.assertEqual((letter_places(book), unknown_places(book), size_bound(book)), (0, 0, 0))

    def test_the_bound_is_the_greater_of_both(self):
        self.assertEqual(size_bound(self.book(((0,) * 18, (-1,)))), 19)
        self.assertEqual(size_bound(self.book(((0,) * 19, (-1,)))), 19)
        self.assertEqual(size_bound(self.book(((0,) * 20, (-1,)))), 20)
        self.assertEqual(size_bound(self.book(((), ()))), 2)

    def test_neighbours_ascend_with_their_counts(self):
        book = self.book(((1, 0, 1, -1, 1, 0), (0, 0)), ((3, 2), (1, 0)))
        self.assertEqual(neighbours(book), (((0, 0), 1), ((0, 1), 1), ((1, 0), 3), ((3, 2), 1)))
        self.assertFalse(holds_list(neighbours(book)))

    def test_three_of_one_letter_are_two_like_neighbours(self):
        self.assertEqual(neighbours(self.book(((2, 2, 2), ()))), (((2, 2), 2),))

    def test_an_unknown_parts_letters(self):
        self.assertEqual(neighbours(self.book(((0, -1, 1), (0, -1, 0)))), ())
        self.assertEqual(neighbours(self.book(((-1, -1), (-2, -3)))), ())

    def test_letters_of_unlike_sides_and_rows_are_no_neighbours(self):
        self.assertEqual(neighbours(self.book(((0,), (1,)), ((2,), (3,)))), ())
        self.assertEqual(neighbours(self.book()), ())


if __name__ == "__main__":
    unittest.main()
