"""Parting and the neighbours that stand most often [6.5, 6.6]."""

import random
import unittest

from pressedwords.books import Book, neighbours
from pressedwords.parting import best_neighbours, parting


def letter_book(*sides):
    """A book without unknowns, with an empty right side beside each of these sides."""
    letters = 1 + max([sign for side in sides for sign in side], default=-1)
    return Book([(side, ()) for side in sides], ((0,),) * letters, ())


def couples_book(*couples):
    """A book in which each of the couples stands by itself, so often as it is told."""
    return Book([(couple, ()) for couple in couples], ((0,),) * 10, ())


def plainly_parted(book):
    """Straight from [6.5], place by place."""
    places = [couple for couple, many in neighbours(book) for _ in range(many) if couple[0] != couple[1]]
    home = {}
    for x in sorted({letter for couple in places for letter in couple}):
        left = sum({"R": 4, None: 2, "L": 0}[home.get(y)] for one, y in places if one == x)
        right = sum({"L": 4, None: 2, "R": 0}[home.get(y)] for y, one in places if one == x)
        home[x] = "R" if right > left else "L"
    pressed = [(x, y) for x, y in places if home[x] == "L" and home[y] == "R"]
    return tuple(sorted({x for x, _ in pressed})), tuple(sorted({y for _, y in pressed}))


class PartingTest(unittest.TestCase):
    def test_without_unlike_neighbours(self):
        self.assertEqual(parting(Book((), (), ())), ((), ()))
        self.assertEqual(parting(letter_book((0, 0, 0), (1,))), ((), ()))
        book = Book([((0, -1, 1), (-1,))], ((0,),) * 2, ((0, (0,)),))
        self.assertEqual(parting(book), ((), ()))

    def test_equal_worths_go_to_the_left(self):
        self.assertEqual(parting(couples_book((0, 1), (1, 0))), ((0,), (1,)))
        self.assertEqual(parting(couples_book((0, 1), (1, 2), (2, 0))), ((0,), (1,)))

    def test_the_placing_letter_by_letter(self):
        # 0: once ahead, twice behind, so R. 1: ahead of 0 in R twice, so L. 2: behind 0 and ahead of nothing placed.
        book = couples_book((0, 2), (1, 0), (1, 0), (2, 1))
        self.assertEqual(parting(book), ((1,), (0,)))
        # 2 is worth 4 on the left for 0 in R, and 2 on the right for 3, which is not yet placed.
        book = couples_book((1, 0), (2, 0), (3, 2), (3, 2))
        self.assertEqual(parting(book), ((1, 2), (0,)))

    def test_places_count_one_by_one(self):
        self.assertEqual(parting(couples_book((1, 0), (0, 2), (0, 2))), ((0,), (2,)))
        self.assertEqual(parting(couples_book((1, 0), (1, 0), (0, 2))), ((1,), (0,)))

    def test_letters_fall_out_in_the_end(self):
        # 0 and 2 go to L, 1 and 3 to R.
        self.assertEqual(parting(couples_book((0, 1), (1, 2), (2, 3))), ((0, 2), (1, 3)))
        # 0 goes to L and 1 to R; 2 goes to L for nothing, since 1 is not in L, and stands ahead of nothing.
        self.assertEqual(parting(couples_book((0, 1), (1, 2))), ((0,), (1,)))
        found = {"left": 0, "right": 0}
        draw = random.Random(5)
        for _ in range(300):
            couples = [(draw.randrange(5), draw.randrange(5)) for _ in range(draw.randrange(1, 8))]
            book = couples_book(*couples)
            firsts, seconds = parting(book)
            letters = {letter for couple in couples if couple[0] != couple[1] for letter in couple}
            out = letters - set(firsts) - set(seconds)
            ahead = {one for one, other in couples if one != other}
            found["left"] += any(letter in ahead for letter in out)
            found["right"] += any(letter not in ahead for letter in out)
            self.assertEqual((firsts, seconds), plainly_parted(book))
            for letter in firsts:
                self.assertTrue(any((letter, other) in couples for other in seconds))
            for letter in seconds:
                self.assertTrue(any((other, letter) in couples for other in firsts))
        self.assertTrue(found["left"] and found["right"])

    def test_a_fourth_is_parted(self):
        draw = random.Random(7)
        for _ in range(300):
            letters = draw.randrange(2, 9)
            sides = [tuple(draw.randrange(-1, letters) for _ in range(draw.randrange(1, 40))) for _ in range(3)]
            book = Book([(sides[0], sides[1]), (sides[2], ())], ((0,),) * letters, ((0, (0,)),))
            firsts, seconds = parting(book)
            unlike = [(couple, many) for couple, many in neighbours(book) if couple[0] != couple[1]]
            parted = sum(many for couple, many in unlike if couple[0] in firsts and couple[1] in seconds)
            self.assertGreaterEqual(4 * parted, sum(many for _, many in unlike))
            self.assertEqual((firsts, seconds), plainly_parted(book))
            self.assertEqual(list(firsts), sorted(set(firsts)))
            self.assertEqual(list(seconds), sorted(set(seconds)))
            self.assertFalse(set(firsts) & set(seconds))
            self.assertIs(type(firsts), tuple)
            self.assertIs(type(seconds), tuple)


class BestNeighboursTest(unittest.TestCase):
    def test_none(self):
        self.assertIsNone(best_neighbours(Book((), (), ())))
        self.assertIsNone(best_neighbours(letter_book((0,), (1,))))

    def test_the_one_that_stands_most_often(self):
        self.assertEqual(best_neighbours(couples_book((2, 1), (0, 1), (2, 1))), (2, 1))
        self.assertEqual(best_neighbours(letter_book((0, 1, 2, 2, 2))), (2, 2))

    def test_of_several_the_least(self):
        self.assertEqual(best_neighbours(couples_book((2, 1), (0, 3), (0, 2), (1, 1))), (0, 2))
        self.assertEqual(best_neighbours(couples_book((3, 1), (1, 1), (1, 1), (3, 1), (0, 0))), (1, 1))


if __name__ == "__main__":
    unittest.main()
