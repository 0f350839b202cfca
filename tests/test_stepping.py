"""The guesses of any step, and their outcomes [6.9]."""

import unittest

from pressedwords.blocks import block_guesses
from pressedwords.books import Book, Clash
from pressedwords.carries import Carries, whole
from pressedwords.errors import BadStep
from pressedwords.first import first_guesses
from pressedwords.guesses import Guess
from pressedwords.pairs import pair_guesses
from pressedwords.stepping import guesses_of, outcome_of
from tests.helpers import caught, lot_for

ONE = lot_for([], 2)
BOOK = Book([((-1, 0, 0, 1), (1, 0, -1))], ((0,),) * 2, ((0, (0,)),))


class GuessesTest(unittest.TestCase):
    def test_the_three_kinds(self):
        for step, guesses in ((("first", 0), first_guesses(BOOK, 0, ONE)),
                              (("pair", (0,), (1,)), pair_guesses(BOOK, (0,), (1,), ONE)),
                              (("pair", (1,), (0,)), pair_guesses(BOOK, (1,), (0,), ONE)),
                              (("block", (0,)), block_guesses(BOOK, (0,), ONE))):
            guesses = list(guesses)
            self.assertEqual(list(guesses_of(BOOK, step, ONE)), guesses)
            lists = [list(part) if isinstance(part, tuple) else part for part in step]
            self.assertEqual(list(guesses_of(BOOK, lists, ONE)), guesses)

    def test_bad_steps(self):
        for step in (None, (), ("first", 1), ("first", True), ("pair", (0,), (0,)), ("block", (1,)), "first"):
            self.assertEqual(caught(BadStep, lambda given: next(iter(guesses_of(BOOK, given, ONE))), step), ())


class OutcomeTest(unittest.TestCase):
    def guess(self, told, equations):
        return Guess((), (), told, (), (), (), equations)

    def test_a_clash_goes_first(self):
        self.assertEqual(outcome_of(self.guess(Clash("front", 0), ((1, (2,)),))), Clash("front", 0))

    def test_equations_without_an_answer(self):
        self.assertEqual(outcome_of(self.guess(BOOK, ((1, (2,)),))), Carries(((1,),)))

    def test_a_book(self):
        self.assertEqual(outcome_of(self.guess(BOOK, ())), BOOK)
        self.assertEqual(outcome_of(self.guess(BOOK, ((3, (2, -3)),))), BOOK)

    def test_outcomes_of_a_block_step(self):
        book = Book([((0, 0, -1), (-2, -2))], ((0,),), ((0, (0,)),) * 2)
        kinds = set()
        for guess in guesses_of(book, ("block", (0,)), ONE):
            outcome = outcome_of(guess)
            kinds.add(type(outcome).__name__)
            if isinstance(outcome, Carries):
                self.assertEqual(outcome, whole(guess.equations))
            else:
                self.assertEqual(outcome, guess.told)
        self.assertEqual(kinds, {"Book", "Clash", "Carries"})


if __name__ == "__main__":
    unittest.main()
