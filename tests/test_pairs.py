"""The pair step [6.1 to 6.4]."""

import unittest
from itertools import product

from pressedwords.books import Book, Clash
from pressedwords.deeds import deed_after
from pressedwords.guesses import ONCE, Guess
from pressedwords.pairs import pair_guesses
from pressedwords.settling import settle, start_of
from tests.helpers import as_lists, holds_list, lot_for
from tests.meaning import Meaning, crossed, filled_length, written_out

ONE = lot_for([], 2)
EVEN = lot_for(["(aa)*"], 1)
AB = lot_for([".*ab.*"], 2)
WHOLE = ((), True, ())


def once(*letters):
    return tuple((letter, ONCE) for letter in letters)


def plain_book(*rows, letters, unknowns):
    return Book(rows, ((0,),) * letters, ((0, (0,)),) * unknowns)


def guessed(book, firsts, seconds, lot=ONE):
    return list(pair_guesses(book, firsts, seconds, lot))


def seven(fronts, backs):
    """The choices of an unknown in their order."""
    return ([(once(r), False, ()) for r in fronts] + [(once(l), False, ()) for l in backs]
            + [(once(r, l), False, ()) for r in fronts for l in backs]
            + [(once(r), True, ()) for r in fronts] + [((), True, once(l)) for l in backs]
            + [(once(r), True, once(l)) for r in fronts for l in backs] + [WHOLE])


class ChoicesTest(unittest.TestCase):
    def parts(self, book, firsts, seconds, lot=ONE):
        self.assertEqual(start_of(book, lot).told, book)
        return [guess.parts for guess in guessed(book, firsts, seconds, lot)]

    def test_the_seven_choices_of_an_unknown_between_two_letters(self):
        book = plain_book(((0, 1, -1, 2, 3), (-1, 0, 1, 3, -1)), letters=4, unknowns=1)
        self.assertEqual(self.parts(book, (1,), (2,)), [(part,) for part in seven((2,), (1,))])
        self.assertEqual(self.parts(book, (0, 1), (2, 3)), [(part,) for part in seven((2, 3), (0, 1))])
        self.assertEqual(len(seven((2, 3), (0, 1))), 2 + 2 + 4 + 2 + 2 + 4 + 1)

    def test_the_choices_are_written_out(self):
        book = plain_book(((0, -1, 1, 2), (-1, 0, 1, -1)), letters=3, unknowns=1)
        self.assertEqual(self.parts(book, (0,), (1,)), [
            ((((1, ONCE),), False, ()),),
            ((((0, ONCE),), False, ()),),
            ((((1, ONCE), (0, ONCE)), False, ()),),
            ((((1, ONCE),), True, ()),),
            (((), True, ((0, ONCE),)),),
            ((((1, ONCE),), True, ((0, ONCE),)),),
            (((), True, ()),)])

    def test_crossed_in_front_alone(self):
        book = plain_book(((0, -1), (-1, 0, 1)), letters=2, unknowns=1)
        self.assertEqual(self.parts(book, (0,), (1,)), [(part,) for part in seven((1,), ())])

    def test_crossed_behind_alone(self):
        book = plain_book(((-1, 0), (1, 0, -1)), letters=2, unknowns=1)
        self.assertEqual(self.parts(book, (1,), (0,)), [(part,) for part in seven((), (1,))])

    def test_crossed_on_neither_side(self):
        book = plain_book(((-1, 0, 1, 0), (0, 1, -1)), letters=2, unknowns=1)
        self.assertEqual(self.parts(book, (0,), (1,)), [(WHOLE,)])

    def test_crossed_by_unknowns(self):
        book = plain_book(((-1, -2, 0), (0, 1, -2)), letters=2, unknowns=2)
        self.assertEqual(self.parts(book, (0,), (1,)), list(product(seven((), (0,)), seven((1,), ()))))
        book = plain_book(((-1, -1), (0, 1)), letters=2, unknowns=1)
        self.assertEqual(self.parts(book, (0,), (1,)), [(part,) for part in seven((1,), (0,))])

    def test_the_last_unknown_changes_fastest(self):
        book = plain_book(((-1, -2, -3, 0), (0, 1, -3, 0, -1)), letters=2, unknowns=3)
        rows = [seven((1,), (0,)) if front and behind else seven((1,), ()) if front else seven((), (0,))
                for front, behind in crossed(book, (0,), (1,))]
        self.assertEqual([len(row) for row in rows], [7, 7, 3])
        self.assertEqual(self.parts(book, (0,), (1,)), list(product(*rows)))

    def test_a_book_without_unknowns_has_one_guess(self):
        rows = [((0, 1), (1, 0))]
        guess, = guessed(Book(rows, ((0,),) * 2, ()), (0,), (1,))
        self.assertEqual(guess, Guess((), (("pair", 0, 1),), Clash("front", 0), (), (), (), ()))

    def test_choices_that_do_not_fit_are_left_out(self):
        odd = (0, (1,))
        a = EVEN.letter_deed("a")
        book = Book([((0, -1), (-1, 0, 1))], (a, a), (odd,), 2)
        self.assertEqual(self.parts(book, (0,), (1,), EVEN), [(part,) for part in seven((1,), ())])
        even = Book(book.rows, book.deeds, ((0, (0,)),), 2)
        self.assertEqual(self.parts(even, (0,), (1,), EVEN), [((once(1), True, ()),), (WHOLE,)])

    def test_lists_for_tuples(self):
        book = plain_book(((0, 1, -1, 2, 3), (-1, 0, 1, 3, -1)), letters=4, unknowns=1)
        self.assertEqual(guessed(book, [0, 1], [2, 3]), guessed(book, (0, 1), (2, 3)))


class PressingTest(unittest.TestCase):
    def test_the_pair_becomes_a_letter(self):
        book = plain_book(((0, 1, -1), (-1, 0, 1)), letters=2, unknowns=1)
        guess, = guessed(book, (0,), (1,))
        told = plain_book(((0, -1), (-1, 0)), letters=1, unknowns=1)
        self.assertEqual(guess, Guess((WHOLE,), (("pair", 0, 1),), told, (2,), (0,), (), ()))

    def test_new_letters_by_first_place_and_like_couples_are_one(self):
        rows = [((-1, 1, 3, 0, 3), (4, 0, 2, 1, 2, -1)), ((-1, 0, 2, 4), (4, 1, 3, 0, 2, -1))]
        book = plain_book(*rows, letters=5, unknowns=1)
        guess = guessed(book, (0, 1), (2, 3))[-1]
        self.assertEqual(guess.parts, (WHOLE,))
        self.assertEqual(guess.news, (("pair", 1, 3), ("pair", 0, 3), ("pair", 0, 2), ("pair", 1, 2)))
        self.assertEqual(guess.told.rows, (((-1, 0, 1), (2, 3, 4, -1)), ((-1, 3, 2), (2, 0, 3, -1))))
        self.assertEqual(guess.letters, (5, 6, 4, 7, 8))

    def test_a_couple_that_stands_nowhere_gets_no_number(self):
        book = plain_book(((-1, 0, 1), (2, 1, -1)), letters=3, unknowns=1)
        guess = guessed(book, (0, 2), (1,))[-1]
        self.assertEqual(guess.news, (("pair", 0, 1), ("pair", 2, 1)))
        book = plain_book(((-1, 0, 1), (2, 0, -1)), letters=3, unknowns=1)
        self.assertEqual([guess.news for guess in guessed(book, (0, 2), (1,))],
                         [(("pair", 0, 1),), (("pair", 0, 1),)] + [(("pair", 0, 1),)])

    def test_pairs_of_what_unknowns_give_up(self):
        book = plain_book(((0, -1, 1), (-1, 2, 0, 1)), letters=3, unknowns=1)
        by_parts = {guess.parts: guess for guess in guessed(book, (0,), (1,))}
        both = by_parts[((once(1), True, once(0)),)]
        self.assertEqual(both.news, (("pair", 0, 1),))
        self.assertEqual(both.told, Clash("front", 0))
        alone = by_parts[((once(1), False, ()),)]
        self.assertEqual((alone.news, alone.told), ((("pair", 0, 1),), Clash("front", 0)))

    def test_couples_across_an_unknown_are_pressed_only_where_it_gives_up(self):
        book = plain_book(((-1, 0, -2, 1), (0, 1, -2, -1)), letters=2, unknowns=2)
        for guess in guessed(book, (0,), (1,)):
            deeds = book.deeds + ((0,),) * len(guess.news)
            rows = []
            for row in book.rows:
                sides = []
                for side in row:
                    signs = [part for sign in side for part in opened(sign, guess.parts)]
                    text = "".join("XYab"[sign + 2] for sign in signs).replace("ab", "p")
                    sides.append(["XYabp".index(sign) - 2 for sign in text])
                rows.append(sides)
            ends = book.ends
            gone = [number for number, part in enumerate(guess.parts) if not part[1]]
            settled = settle(Book(rows, deeds, ends), gone, ONE)
            self.assertEqual((guess.told, guess.letters, guess.unknowns, guess.spares),
                             (settled.told, settled.letters, settled.unknowns, settled.spares))

    def test_the_deed_of_a_new_letter(self):
        everything = (0, (0, 1, 2))
        deeds = (AB.letter_deed("a"), AB.letter_deed("b"))
        book = Book([((0, 1, -1), (-1, 1, 0))], deeds, (everything,), 3)
        for guess in guessed(book, (0,), (1,), AB):
            for letter, old in enumerate(guess.letters):
                if old >= 2:
                    self.assertEqual(guess.told.deeds[letter], deed_after(*deeds))

    def test_guesses_with_a_clash_are_yielded(self):
        book = plain_book(((0, -1, 1), (-1, 2, 0, 1)), letters=3, unknowns=1)
        clashes = [guess.told for guess in guessed(book, (0,), (1,)) if isinstance(guess.told, Clash)]
        self.assertTrue(clashes)
        for guess in guessed(book, (0,), (1,)):
            if isinstance(guess.told, Clash):
                self.assertEqual((guess.letters, guess.unknowns, guess.spares), ((), (), ()))
                self.assertNotEqual(guess.told.why, "state")

    def test_tuples_throughout_and_the_book_stays(self):
        book = plain_book(((0, 1, -1), (-1, 1, 0)), letters=2, unknowns=1)
        key = book.key
        for guess in guessed(*[book, [0], [1]]):
            self.assertFalse(holds_list(tuple(vars(guess).values())))
            self.assertEqual(guess.equations, ())
        self.assertEqual(book.key, key)
        self.assertEqual(as_lists(key), as_lists(book.key))

    def test_guesses_come_one_by_one(self):
        # Ten unknowns, each crossed on both sides, have 7 ** 10 guesses.
        row = tuple(range(-10, 0))
        book = start_of(plain_book((row + (0, 1), (0, 1) + row[::-1]), letters=2, unknowns=10), ONE).told
        first = next(iter(pair_guesses(book, (0,), (1,), ONE)))
        self.assertEqual(len(first.parts), 10)


def opened(sign, parts):
    if sign >= 0:
        return [sign]
    front, stays, back = parts[-1 - sign]
    return [letter for letter, _ in front] + [sign] * stays + [letter for letter, _ in back]


class NothingIsLostTest(unittest.TestCase):
    """[6.4] for all short fillings."""

    def assert_step(self, book, firsts, seconds, lot, length):
        self.assertEqual(start_of(book, lot).told, book)
        meaning = Meaning(book, lot)
        guesses = guessed(book, firsts, seconds, lot)
        fillings = meaning.fillings(book, meaning.names, length)
        for texts in fillings:
            self.assert_met_once(meaning, guesses, firsts, seconds, texts)
        for guess in guesses:
            if isinstance(guess.told, Book):
                self.assert_nothing_invented(meaning, guess, length - 1)
        return len(fillings)

    def names(self, meaning, guess):
        tokens = meaning.names + list(guess.news)
        return [tokens[old] for old in guess.letters]

    def due(self, book, firsts, seconds, texts):
        """The parts that the texts of a filling begin and end with, and what is left of them, pressed."""
        parts, rests = [], []
        for text, (in_front, behind) in zip(texts, crossed(book, firsts, seconds)):
            front, back = (), ()
            if in_front and text[0] in [("old", r) for r in seconds]:
                front, text = once(text[0][1]), text[1:]
            if behind and text and text[-1] in [("old", l) for l in firsts]:
                back, text = once(text[-1][1]), text[:-1]
            parts.append((front, True, back) if text else (front + back, False, ()))
            rests.append(pressed(text, firsts, seconds))
        return tuple(parts), rests

    def assert_met_once(self, meaning, guesses, firsts, seconds, texts):
        parts, rests = self.due(meaning.parent, firsts, seconds, texts)
        guess, = [guess for guess in guesses if guess.parts == parts]
        self.assertIsInstance(guess.told, Book)
        left = [rests[old] for old in guess.unknowns]
        names = self.names(meaning, guess)
        self.assertTrue(meaning.fills(guess.told, names, left))
        for number, ends in guess.spares:
            self.assertTrue(meaning.fits(ends, rests[number]))
        self.assertLess(filled_length(guess.told, names, left),
                        filled_length(meaning.parent, meaning.names, texts))

    def assert_nothing_invented(self, meaning, guess, length):
        names = self.names(meaning, guess)
        spares = [meaning.all_texts(ends, meaning.further + meaning.names, 1) for _, ends in guess.spares]
        for texts in meaning.fillings(guess.told, names, length):
            for more in product(*spares):
                rests = [()] * len(guess.parts)
                for number, text in zip(guess.unknowns + tuple(n for n, _ in guess.spares), texts + more):
                    rests[number] = written_out(text)
                whole = [tuple(("old", letter) for letter, _ in front) + rest + tuple(("old", l) for l, _ in back)
                         for rest, (front, _, back) in zip(rests, guess.parts)]
                self.assertTrue(meaning.fills(meaning.parent, meaning.names, whole))

    def test_books_with_one_state(self):
        for rows, firsts, seconds, length in (
                ([((0, 1, -1), (-1, 0, 1))], (0,), (1,), 4),
                ([((0, 1, -1), (-1, 1, 0))], (0,), (1,), 4),
                ([((0, 1, 0, -1), (-1, 0, 1, 0))], (1,), (0,), 4),
                ([((0, 1, 2, -1), (-1, 0, 1, 2))], (0, 2), (1,), 4),
                ([((-1, -2), (0, 1, -1))], (0,), (1,), 3),
                ([((-1, 0, -2), (-2, 0, 1, -1))], (0,), (1,), 2),
                ([((-1, 0, 1, -2), (-2, 0, 1, -1))], (0,), (1,), 3),
                ([((-1, -1), (0, 1, -2))], (0,), (1,), 3),
                ([((0, 1, -1), (-1, 0, 1)), ((-1, 0), (0, 1, -2))], (0,), (1,), 3)):
            letters = 1 + max(sign for row in rows for side in row for sign in side)
            unknowns = -min(sign for row in rows for side in row for sign in side)
            book = plain_book(*rows, letters=letters, unknowns=unknowns)
            self.assert_step(book, firsts, seconds, ONE, length)
        book = plain_book(((0, 1, -1), (-1, 0, 1)), letters=2, unknowns=1)
        self.assertEqual(self.assert_step(book, (0,), (1,), ONE, 6), 3)

    def test_books_with_several_states(self):
        a, b = AB.letter_deed("a"), AB.letter_deed("b")
        everything = (0, (0, 1, 2))
        count = 0
        for rows, ends, length in (
                ([((0, 1, -1), (-1, 0, 1))], ((0, (2,)),), 3),
                ([((0, 1, -1), (-1, 0, 1))], ((0, (0, 1)),), 3),
                ([((-1, -2), (0, 1, -1))], (everything, (0, (2,))), 2),
                ([((-1, 0, 1), (0, -2))], ((0, (1, 2)), everything), 3)):
            count += self.assert_step(Book(rows, (a, b), ends, 3), (0,), (1,), AB, length)
        self.assertGreater(count, 3)
        odd, even = (0, (1,)), (0, (0,))
        a = EVEN.letter_deed("a")
        for ends in ((odd, even), (even, odd), (odd, odd)):
            for rows in ([((-1, -2), (0, 1, -1))], [((0, -1), (-2, 0, 1))]):
                self.assert_step(Book(rows, (a, a), ends, 2), (0,), (1,), EVEN, 3)


def pressed(text, firsts, seconds):
    """The text with a token for each couple of a letter of L and one of R."""
    tokens = []
    for token in text:
        if tokens and token[0] == "old" == tokens[-1][0] and tokens[-1][1] in firsts and token[1] in seconds:
            tokens[-1] = ("pair", tokens[-1][1], token[1])
        else:
            tokens.append(token)
    return tuple(tokens)


if __name__ == "__main__":
    unittest.main()
