"""The step that is told, and steps that may be taken [6.7, 6.8]."""

import random
import unittest

from pressedwords.books import Book, letter_places, size_bound, unknown_places
from pressedwords.errors import BadStep
from pressedwords.settling import start_of
from pressedwords.stepping import guesses_of
from pressedwords.steps import let_step, told_step
from tests.helpers import as_lists, caught, holds_list, lot_for

ONE = lot_for([], 3)


def plain_book(*rows):
    signs = [sign for row in rows for side in row for sign in side]
    return Book(rows, ((0,),) * (1 + max(signs + [-1])), ((0, (0,)),) * -min(signs + [0]))


class ToldStepTest(unittest.TestCase):
    def test_no_rows(self):
        self.assertIsNone(told_step(Book((), (), ())))

    def test_no_neighbours(self):
        self.assertEqual(told_step(plain_book(((-1, 0), (1, -1)))), ("first", 0))
        self.assertEqual(told_step(plain_book(((-1,), (-2, 0, -2)))), ("first", 0))
        # Many letters, but none beside another one.
        sides = tuple(sign for _ in range(40) for sign in (0, -1))
        self.assertEqual(told_step(plain_book((sides, (-1,)))), ("first", 0))

    def test_at_the_bound_the_best_neighbours_are_taken(self):
        # n is 2 and k is 1, so the bound is 32.
        for letters, step in ((32, ("pair", (0,), (1,))), (33, ("pair", (0,), (1,)))):
            side = (0, 1) * 20
            book = plain_book(((-1,) + side[:letters - 1], (0, -1)))
            self.assertEqual((letter_places(book), unknown_places(book)), (letters, 2))
            self.assertEqual(told_step(book), step)
        # 0 1, 0 2 and 1 2: at the bound only the best one, one more place and both letters that follow.
        side = (0, 1, 0, 2) * 7
        book = plain_book(((-1,) + side + (3, 1, 2), (0, -1)))
        self.assertEqual((letter_places(book), unknown_places(book)), (32, 2))
        self.assertEqual(told_step(book), ("pair", (0,), (1,)))
        book = plain_book(((-1,) + side + (3, 1, 2, 3), (0, -1)))
        self.assertEqual(letter_places(book), 33)
        self.assertEqual(told_step(book), ("pair", (0, 3), (1, 2)))

    def test_the_bound_counts_rows_and_unknowns(self):
        # n is 4 and k is 2, so the bound is 64.
        for more in (0, 1):
            book = plain_book(((-1,) + (0, 1, 0, 2) * 15 + (0,) * more, (0, -1)), ((-1, 1, 1), (2, -1)))
            self.assertEqual(letter_places(book), 64 + more)
            told = told_step(book)
            self.assertEqual(told, ("pair", (0,), (1, 2)) if more else ("pair", (0,), (1,)))

    def test_best_neighbours_that_are_like(self):
        self.assertEqual(told_step(plain_book(((-1, 0, 0), (0, -1)))), ("block", (0,)))
        self.assertEqual(told_step(plain_book(((-1, 1, 1, 1, 0), (0, 1, -1)))), ("block", (1,)))
        # 0 0 and 0 1 stand equally often, and 0 0 is the lesser one.
        self.assertEqual(told_step(plain_book(((-1, 0, 0, 1), (1, -1)))), ("block", (0,)))
        self.assertEqual(told_step(plain_book(((-1, 1, 1, 0, 2), (1, -1)))), ("pair", (0,), (2,)))

    def many_like(self, like, unlike):
        """A book above its bound with so many like and unlike neighbours."""
        runs = unlike + 1
        side = []
        for run in range(runs):
            letter = run % 2 + 1
            side.extend([letter] * (1 + like // runs + (run < like % runs)))
        return plain_book(((-1, 0) + tuple(side), (3, -1)))

    def test_more_like_than_unlike_neighbours(self):
        # The first letter of the side behind the 0 makes one more unlike neighbour.
        book = self.many_like(22, 20)
        self.assertEqual(told_step(book), ("block", (1, 2)))

    def test_as_many_like_and_fewer(self):
        for like in (21, 20):
            told = told_step(self.many_like(like, 20))
            self.assertEqual(told[0], "pair")

    def test_block_of_all_letters_beside_themselves(self):
        book = plain_book(((-1,) + (0, 0, 0, 1, 2, 2, 2) * 6, (1, -1)))
        self.assertGreater(letter_places(book), 15 * 2 + 2)
        self.assertEqual(told_step(book), ("block", (0, 2)))

    def test_bounds_of_guesses_of_told_steps(self):
        draw = random.Random(11)
        kinds = {}
        for _ in range(60):
            rows = [tuple(tuple(draw.choice((-2, -1, 0, 0, 1, 2)) for _ in range(draw.choice((2, 3, 6, 40))))
                          for _ in range(2)) for _ in range(draw.choice((1, 2)))]
            signs = [sign for row in rows for side in row for sign in side]
            if len([sign for sign in signs if sign < 0]) > 12:
                rows = [tuple(tuple(abs(sign) if at > 1 else sign for at, sign in enumerate(side)) for side in row)
                        for row in rows]
            book = start_of(Book(rows, ((0,),) * 3, ((0, (0,)),) * 2), ONE).told
            if not isinstance(book, Book) or not book.rows:
                continue
            step = told_step(book)
            kinds[step[0]] = kinds.get(step[0], 0) + 1
            self.assertEqual(let_step(book, step), step)
            for at, guess in enumerate(guesses_of(book, step, ONE)):
                if isinstance(guess.told, Book):
                    self.assertLessEqual(unknown_places(guess.told), unknown_places(book))
                    self.assertLessEqual(len(guess.told.rows), len(book.rows))
                    self.assertLessEqual(letter_places(guess.told), size_bound(book))
                if at > 500:
                    break
        self.assertEqual(set(kinds), {"first", "pair", "block"})


class LetStepTest(unittest.TestCase):
    BOOK = plain_book(((-1, 0, 0, 1, 2), (1, 0, 2, 2, -1)), ((-1, 0), (1, -1)))

    def refuses(self, *steps, book=BOOK):
        for step in steps:
            self.assertEqual(caught(BadStep, let_step, book, step), (), step)

    def lets(self, *steps, book=BOOK):
        for step in steps:
            for given in (step, as_lists(step)):
                told = let_step(book, given)
                self.assertEqual(told, step)
                self.assertFalse(holds_list(told))
                self.assertIs(type(told), tuple)

    def test_first(self):
        self.lets(("first", 0), ("first", 1))
        self.refuses(("first", 2), ("first", -1), ("first", True), ("first", False), ("first", "0"), ("first", None),
                     ("first", (0,)), ("first",), ("first", 0, 0))
        self.refuses(("first", 0), book=Book((), (), ()))

    def test_pair(self):
        self.lets(("pair", (0,), (1,)), ("pair", (0,), (1, 2)), ("pair", (0, 1), (2,)), ("pair", (1,), (0, 2)))
        # 2 stands behind no letter of L, but one couple is enough.
        self.lets(("pair", (0, 2), (1,)))
        self.refuses(("pair", (2,), (0,)), ("pair", (2,), (1,)), ("pair", (2,), (0, 1)))
        self.refuses(("pair", (), (1,)), ("pair", (0,), ()), ("pair", (1, 0), (2,)), ("pair", (0,), (2, 1)),
                     ("pair", (0, 0), (1,)), ("pair", (0,), (1, 1)), ("pair", (0,), (0,)), ("pair", (0, 1), (1, 2)),
                     ("pair", (0, 3), (1,)), ("pair", (0,), (1, 3)), ("pair", (-1,), (0,)), ("pair", (-1, 0), (1,)),
                     ("pair", (0,), (True,)), ("pair", (False,), (1,)), ("pair", (0,), ("1",)), ("pair", 0, 1),
                     ("pair", "0", "1"), ("pair", (0,)), ("pair", (0,), (1,), ()), ("pair", (0,), None))

    def test_pair_across_an_unknown_is_none(self):
        book = plain_book(((0, -1, 1), (-1, 1, 0, -1)))
        self.refuses(("pair", (0,), (1,)), book=book)
        self.lets(("pair", (1,), (0,)), book=book)

    def test_block(self):
        self.lets(("block", (0,)), ("block", (2,)), ("block", (0, 2)))
        self.refuses(("block", ()), ("block", (1,)), ("block", (0, 1)), ("block", (0, 1, 2)), ("block", (2, 0)),
                     ("block", (0, 0)), ("block", (3,)), ("block", (-1,)), ("block", (False,)), ("block", 0),
                     ("block", "0"), ("block",), ("block", (0,), ()), ("block", (None,)))

    def test_no_steps_at_all(self):
        self.refuses(None, 0, True, "first", "", (), [], ("other", 0), (0, 0), (None, 0), (("first",), 0),
                     (["first"], 0), {"first": 0}, ("First", 0), (True, 0), b"first", ("pair",), ("", 0))

    def test_what_is_passed_in_stays(self):
        step = ["pair", [0], [1]]
        told = let_step(self.BOOK, step)
        step[1].append(2)
        self.assertEqual(told, ("pair", (0,), (1,)))


if __name__ == "__main__":
    unittest.main()
