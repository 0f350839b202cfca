"""Guesses and opened sides [5.3, 5.4, 5.7]."""

import unittest

from pressedwords.guesses import ONCE, Guess, combined, opened_side
from tests.helpers import check_result, holds_list


class GuessTest(unittest.TestCase):
    def test_once(self):
        self.assertEqual(ONCE, (1, ()))
        self.assertIs(type(ONCE), tuple)

    def test_is_a_result(self):
        check_result(self, Guess, ["parts", "news", "told", "letters", "unknowns", "spares", "equations"])


class OpenedSideTest(unittest.TestCase):
    def test_letters_stand_once(self):
        self.assertEqual(opened_side((), ()), ())
        self.assertEqual(opened_side((2, 0, 2), ()), ((2, ONCE), (0, ONCE), (2, ONCE)))

    def test_parts_that_stay_and_that_do_not(self):
        row, block = (3, (0, 1)), (2, ())
        parts = ((((5, ONCE), (6, row)), True, ((7, block),)),
                 (((8, ONCE),), False, ((9, block),)),
                 ((), True, ()),
                 ((), False, ()))
        first = ((5, ONCE), (6, row), (-1, ONCE), (7, block))
        second = ((8, ONCE), (9, block))
        self.assertEqual(opened_side((-1,), parts), first)
        self.assertEqual(opened_side((-2,), parts), second)
        self.assertEqual(opened_side((-3,), parts), ((-3, ONCE),))
        self.assertEqual(opened_side((-4,), parts), ())
        self.assertEqual(opened_side((-2, 1, -1, -1, -4, -3), parts),
                         second + ((1, ONCE),) + first + first + ((-3, ONCE),))
        self.assertFalse(holds_list(opened_side([-1, -2, 0], parts)))


class CombinedTest(unittest.TestCase):
    def test_the_last_row_changes_fastest(self):
        self.assertEqual(list(combined([(1, 2), (3,), [4, 5]])), [(1, 3, 4), (1, 3, 5), (2, 3, 4), (2, 3, 5)])

    def test_no_rows_and_empty_rows(self):
        self.assertEqual(list(combined([])), [()])
        self.assertEqual(list(combined([(1, 2), ()])), [])


if __name__ == "__main__":
    unittest.main()
