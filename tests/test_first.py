"""The first step [5.5, 5.6, 5.8, 5.9]."""

import unittest
from itertools import product

from pressedwords.books import Book, Clash
from pressedwords.first import first_guesses, left_ends
from pressedwords.guesses import ONCE, Guess
from pressedwords.settling import settle, start_of
from tests.helpers import holds_list, lot_for, rows_up_to

ONE = lot_for([], 2)
EVEN = lot_for(["(aa)*"], 1)
AB = lot_for([".*ab.*"], 2)
LAST = lot_for([".*b"], 2)
FREE = ((0,), (0,))
WHOLE = ((), True, ())


def alone(letter):
    return (((letter, ONCE),), False, ())


def more(letter):
    return (((letter, ONCE),), True, ())


def plain_book(*rows, letters, unknowns):
    return Book(rows, ((0,),) * letters, ((0, (0,)),) * unknowns)


def guessed(book, at, lot):
    return list(first_guesses(book, at, lot))


class LeftEndsTest(unittest.TestCase):
    def test_nothing_given_up(self):
        self.assertEqual(left_ends((1, (0, 2)), (), (), ((0, 0, 0),)), (1, (0, 2)))
        self.assertEqual(left_ends((1, ()), (), (), ()), (1, ()))

    def test_letters_in_front_in_the_order_of_the_text(self):
        deeds = ((1, 2, 2), (0, 0, 1))
        self.assertEqual(left_ends((0, (1,)), ((0, ONCE),), (), deeds), (1, (1,)))
        self.assertEqual(left_ends((0, (1,)), ((0, ONCE), (0, ONCE), (1, ONCE)), (), deeds), (1, (1,)))
        self.assertEqual(left_ends((0, (1,)), ((1, ONCE), (0, ONCE), (0, ONCE)), (), deeds), (2, (1,)))

    def test_letters_behind_in_the_order_of_the_text(self):
        deeds = ((1, 2, 2), (0, 0, 1))
        self.assertEqual(left_ends((0, (2,)), (), ((0, ONCE),), deeds), (0, (1, 2)))
        self.assertEqual(left_ends((0, (2,)), (), ((1, ONCE),), deeds), (0, ()))
        self.assertEqual(left_ends((0, (0, 2)), (), ((0, ONCE), (1, ONCE)), deeds), (0, (0,)))
        self.assertEqual(left_ends((0, (0, 2)), (), ((1, ONCE), (0, ONCE)), deeds), (0, (2,)))

    def test_both(self):
        deeds = ((1, 2, 2), (0, 0, 1))
        self.assertEqual(left_ends((0, (2,)), ((0, ONCE),), ((0, ONCE),), deeds), (1, (1, 2)))

    def test_against_going_through_the_states(self):
        for lot in (AB, LAST, EVEN):
            deeds = [deed for deed, _ in lot.table]
            goal_rows = [goals for many in range(lot.states + 1) for goals in product(range(lot.states), repeat=many)
                         if list(goals) == sorted(set(goals))]
            for front in rows_up_to(range(len(deeds)), 2, 0):
                for back in rows_up_to(range(len(deeds)), 2, 0):
                    for start in range(lot.states):
                        for goals in goal_rows:
                            told = left_ends((start, goals), tuple((letter, ONCE) for letter in front),
                                             tuple((letter, ONCE) for letter in back), deeds)
                            new_start = lead(start, front, deeds)
                            new_goals = tuple(state for state in range(lot.states)
                                              if lead(state, back, deeds) in goals)
                            self.assertEqual(told, (new_start, new_goals))


def lead(state, text, deeds):
    for letter in text:
        state = deeds[letter][state]
    return state


class OneLetterTest(unittest.TestCase):
    def test_the_example_of_closed_lists(self):
        # X a = b X: X is b alone, a Clash; X is b and more, the same book again.
        book = start_of(Book([((-1, 0), (1, -1))], FREE, ((0, (0,)),)), ONE).told
        self.assertEqual(guessed(book, 0, ONE), [
            Guess((alone(1),), (), Clash("front", 0), (), (), (), ()),
            Guess((more(1),), (), book, (0, 1), (0,), (), ())])

    def test_the_letter_stands_on_the_left(self):
        book = plain_book(((0, -1), (-2, 1)), letters=2, unknowns=2)
        one, other = guessed(book, 0, ONE)
        self.assertEqual(one, Guess((WHOLE, alone(0)), (), plain_book(((-1,), (0,)), letters=1, unknowns=1),
                                    (1,), (0,), (), ()))
        self.assertEqual(other, Guess((WHOLE, more(0)), (), plain_book(((-1,), (-2, 0)), letters=1, unknowns=2),
                                      (1,), (0, 1), (), ()))

    def test_unknowns_that_stand_in_no_row_any_more_are_spare(self):
        book = plain_book(((-1,), (0, -2)), letters=1, unknowns=2)
        one, other = guessed(book, 0, ONE)
        self.assertEqual(one.told, Clash("empty", 0))
        self.assertEqual(other.told, plain_book(((-1,), (-2,)), letters=0, unknowns=2))
        book = plain_book(((-1, -2), (0, -2)), letters=1, unknowns=2)
        one, other = guessed(book, 0, ONE)
        self.assertEqual((one.told, one.spares), (plain_book(letters=0, unknowns=0), ((1, (0, (0,))),)))
        self.assertEqual((one.parts, one.letters, one.unknowns), ((alone(0), WHOLE), (), ()))
        self.assertEqual(other.told, Clash("empty", 0))

    def test_the_row_that_is_told(self):
        book = plain_book(((-1, 0), (0, -1)), ((-1, -2), (-2, 1)), letters=2, unknowns=2)
        self.assertEqual([guess.parts for guess in guessed(book, 0, ONE)], [(alone(0), WHOLE), (more(0), WHOLE)])
        self.assertEqual(len(guessed(book, 1, ONE)), 4 * 3)
        book = plain_book(((-1, 0), (0, -1)), ((1, -1, -2), (-2, 1, -1)), letters=2, unknowns=2)
        self.assertEqual([guess.parts for guess in guessed(book, 1, ONE)], [(WHOLE, alone(1)), (WHOLE, more(1))])

    def test_choices_that_do_not_fit_are_left_out(self):
        deed = EVEN.letter_deed("a")
        rows = [((-1, -2), (0, -1))]
        for goals, parts in (((0,), [(more(0), WHOLE)]), ((1,), [(alone(0), WHOLE), (more(0), WHOLE)])):
            book = Book(rows, (deed,), ((0, goals), (0, (0, 1))), 2)
            self.assertEqual([guess.parts for guess in guessed(book, 0, EVEN)], parts)
        once = lot_for(["a"], 1)
        book = Book(rows, (once.letter_deed("a"),), ((0, (1,)), (0, (2,))), 3)
        self.assertEqual([guess.parts for guess in guessed(book, 0, once)], [(alone(0), WHOLE)])

    def test_the_ends_of_what_goes_on(self):
        deed = AB.letter_deed("a")
        book = Book([((-1, 0), (0, -2, 0, -1))], (deed,), ((0, (2,)), (1, (1,))), 3)
        one, = guessed(book, 0, AB)
        self.assertEqual(one.parts, (more(0), WHOLE))
        self.assertEqual(one.told.ends, ((1, (2,)), (1, (1,))))


class TwoUnknownsTest(unittest.TestCase):
    def orders(self, letter, first, second, unknowns):
        """The parts of the four guesses, first being the unknown with the smaller number."""
        found = []
        for one, other in ((alone, alone), (alone, more), (more, alone), (more, more)):
            parts = [WHOLE] * unknowns
            parts[first], parts[second] = one(letter), other(letter)
            found.append(tuple(parts))
        return found

    def test_the_order_of_the_guesses(self):
        for row in (((-1, 0, -1), (-2, 1, -2)), ((-1, -2, 0), (-2, 1, -1))):
            guesses = guessed(plain_book(row, letters=2, unknowns=2), 0, ONE)
            self.assertEqual([guess.parts for guess in guesses],
                             [parts for letter in range(3) for parts in self.orders(letter, 0, 1, 2)])
            self.assertEqual([guess.news for guess in guesses], [()] * 8 + [(("free", (0,)),)] * 4)

    def test_a_greater_number_in_front(self):
        book = plain_book(((-1, 0, -2), (0, -2, -1)), ((-2, -1, 0), (-1, 0, -2)), letters=1, unknowns=2)
        self.assertEqual([guess.parts for guess in guessed(book, 1, ONE)],
                         self.orders(0, 0, 1, 2) + self.orders(1, 0, 1, 2))
        book = plain_book(((-1, -2), (0, -3)), ((-3, 0, -1), (-2, -1, 0)), letters=1, unknowns=3)
        self.assertEqual([guess.parts for guess in guessed(book, 1, ONE)],
                         self.orders(0, 1, 2, 3) + self.orders(1, 1, 2, 3))

    def test_free_letters_in_the_order_of_the_table(self):
        everything = (0, tuple(range(AB.states)))
        book = Book([((-1, -2), (-2, -1))], (), (everything, everything), AB.states)
        guesses = guessed(book, 0, AB)
        self.assertEqual([guess.news for guess in guesses],
                         [(("free", deed),) for deed, _ in AB.table for _ in range(4)])
        self.assertEqual([guess.parts for guess in guesses], self.orders(0, 0, 1, 2) * 4)
        both_alone, one_alone = guesses[:2]
        self.assertEqual(both_alone.told, Book((), (), (), 3))
        self.assertEqual(one_alone.told, Book([((0, -1), (-1, 0))], ((0, 2, 2),), ((0, (0, 1, 2)),), 3))
        self.assertEqual((one_alone.letters, one_alone.unknowns, one_alone.spares), ((0,), (1,), ()))

    def test_letters_of_the_book_and_new_ones_are_numbered_behind_one_another(self):
        everything = (0, tuple(range(AB.states)))
        book = Book([((-1, 0, -2), (-2, 0, 1, -1))], (AB.letter_deed("b"), AB.letter_deed("a")),
                    (everything, everything), 3)
        guesses = guessed(book, 0, AB)
        self.assertEqual(len(guesses), 4 * (2 + 4))
        self.assertEqual({guess.parts[0][0] for guess in guesses[8:]}, {((2, ONCE),)})
        for guess in guesses:
            deeds = book.deeds + tuple(new[1] for new in guess.news)
            if isinstance(guess.told, Book):
                self.assertEqual(guess.told.deeds, tuple(deeds[old] for old in guess.letters))

    def test_choices_that_do_not_fit_are_left_out(self):
        # X is a row of b ending in state 0, Y has an ab.
        book = Book([((-1, -2), (-2, -1))], (), ((0, (0,)), (0, (2,))), 3)
        told = [(guess.news[0][1], guess.parts) for guess in guessed(book, 0, AB)]
        b = (0, 2, 2)
        self.assertEqual(told, [(b, (alone(0), more(0))), (b, (more(0), more(0)))])

    def test_guesses_with_a_clash_are_yielded(self):
        book = plain_book(((-1,), (-2, -3)), ((-3, 0), (1, -3)), letters=2, unknowns=3)
        told = [guess.told for guess in guessed(book, 0, ONE)]
        self.assertEqual(len(told), 12)
        self.assertEqual(told[0], Clash("empty", 0))
        self.assertEqual(told[1], Clash("empty", 0))
        self.assertEqual([isinstance(one, Clash) for one in told], [True, True, False, False] * 3)
        for guess in guessed(book, 0, ONE):
            if isinstance(guess.told, Clash):
                self.assertEqual((guess.letters, guess.unknowns, guess.spares), ((), (), ()))


class KindsTest(unittest.TestCase):
    BOOK = Book([((-1, 0, -2), (-2, 0, -1))], (AB.letter_deed("b"),), ((0, (0, 1, 2)), (0, (2,))), 3)

    def test_tuples_throughout(self):
        for guess in guessed(self.BOOK, 0, AB):
            self.assertFalse(holds_list((guess.parts, guess.news, guess.letters, guess.unknowns, guess.spares)))
            self.assertEqual(guess.equations, ())
            self.assertIs(type(guess.equations), tuple)

    def test_told_is_what_settle_makes_of_the_new_book(self):
        for guess in guessed(self.BOOK, 0, AB):
            deeds = self.BOOK.deeds + tuple(new[1] for new in guess.news)
            rows, ends, gone = [], [], []
            for row in self.BOOK.rows:
                rows.append([[sign for sign_there in side for sign in opened(sign_there, guess.parts)]
                             for side in row])
            for number, (front, stays, back) in enumerate(guess.parts):
                ends.append(left_ends(self.BOOK.ends[number], front, back, deeds))
                if not stays:
                    gone.append(number)
            settled = settle(Book(rows, deeds, ends, 3), gone, AB)
            self.assertEqual((guess.told, guess.letters, guess.unknowns, guess.spares),
                             (settled.told, settled.letters, settled.unknowns, settled.spares))
            if isinstance(guess.told, Clash):
                self.assertNotEqual(guess.told.why, "state")

    def test_guesses_come_one_by_one(self):
        guesses = iter(first_guesses(self.BOOK, 0, AB))
        self.assertEqual(next(guesses), guessed(self.BOOK, 0, AB)[0])


def opened(sign, parts):
    if sign >= 0:
        return [sign]
    front, stays, back = parts[-1 - sign]
    return [letter for letter, _ in front] + [sign] * stays + [letter for letter, _ in back]


class Fillings:
    """All short fillings of a book and of the books of its guesses.

    A letter of a filling is a letter of the parent, or len(parent.deeds) + k for the further one of deed k of the
    table. Of a guess's book the letters are told by those of the parent which they stand for.
    """

    def __init__(self, parent, lot):
        self.parent = parent
        self.table = [deed for deed, _ in lot.table]
        self.deeds = list(parent.deeds) + self.table

    def letters_of(self, guess):
        """For each letter number of the guess's new book the letter of a filling."""
        return list(range(len(self.parent.deeds))) + [
            len(self.parent.deeds) + self.table.index(deed) for _, deed in guess.news]

    def fits(self, ends, text):
        start, goals = ends
        return len(text) > 0 and lead(start, text, self.deeds) in goals

    def fills(self, book, names, texts):
        """Whether texts by unknown numbers fill a book whose letters stand for names."""
        if not all(self.fits(ends, texts[number]) for number, ends in enumerate(book.ends)):
            return False
        return all(self.filled(left, names, texts) == self.filled(right, names, texts) for left, right in book.rows)

    def filled(self, side, names, texts):
        return tuple(letter for sign in side for letter in ((names[sign],) if sign >= 0 else texts[-1 - sign]))

    def length(self, book, names, texts):
        return sum(len(self.filled(left, names, texts)) for left, _ in book.rows)

    def all_texts(self, ends, length):
        return [text for text in rows_up_to(range(len(self.deeds)), length) if self.fits(ends, text)]

    def rest(self, guess, texts):
        """What the parts of a guess leave of the texts of the parent, or None if it does not meet them."""
        names = self.letters_of(guess)
        rests = []
        for text, (front, stays, back) in zip(texts, guess.parts):
            ahead = tuple(names[letter] for letter, _ in front)
            behind = tuple(names[letter] for letter, _ in back)
            inner = text[len(ahead):len(text) - len(behind)]
            if ahead + inner + behind != text or (len(inner) > 0) != stays:
                return None
            rests.append(inner)
        return rests

    def put_around(self, guess, rests):
        names = self.letters_of(guess)
        return [tuple(names[letter] for letter, _ in front) + rest + tuple(names[letter] for letter, _ in back)
                for rest, (front, _, back) in zip(rests, guess.parts)]


class NothingIsLostTest(unittest.TestCase):
    def assert_step(self, book, at, lot, length):
        self.assertEqual(start_of(book, lot).told, book)
        fillings = Fillings(book, lot)
        guesses = guessed(book, at, lot)
        parent = list(range(len(book.deeds)))
        count = 0
        for texts in product(*[fillings.all_texts(ends, length) for ends in book.ends]):
            if fillings.fills(book, parent, texts):
                count += 1
                self.assert_met_once(fillings, book, parent, guesses, texts)
        for guess in guesses:
            if isinstance(guess.told, Book):
                count += self.assert_nothing_invented(fillings, book, parent, guess, length - 1)
        return count

    def assert_met_once(self, fillings, book, parent, guesses, texts):
        met = [(guess, fillings.rest(guess, texts)) for guess in guesses]
        met = [(guess, rests) for guess, rests in met if rests is not None]
        self.assertEqual(len(met), 1, (book.rows, texts))
        guess, rests = met[0]
        self.assertIsInstance(guess.told, Book)
        names = [fillings.letters_of(guess)[old] for old in guess.letters]
        left = [rests[old] for old in guess.unknowns]
        self.assertTrue(fillings.fills(guess.told, names, left))
        for number, ends in guess.spares:
            self.assertTrue(fillings.fits(ends, rests[number]))
        self.assertLess(fillings.length(guess.told, names, left), fillings.length(book, parent, texts))

    def assert_nothing_invented(self, fillings, book, parent, guess, length):
        names = [fillings.letters_of(guess)[old] for old in guess.letters]
        spares = [number for number, _ in guess.spares]
        choices = [fillings.all_texts(ends, length) for ends in guess.told.ends]
        choices += [fillings.all_texts(ends, 1) for _, ends in guess.spares]
        count = 0
        for texts in product(*choices):
            if fillings.fills(guess.told, names, texts[:len(guess.unknowns)]):
                rests = [()] * len(book.ends)
                for number, text in zip(guess.unknowns + tuple(spares), texts):
                    rests[number] = text
                self.assertTrue(fillings.fills(book, parent, fillings.put_around(guess, rests)))
                count += 1
        return count

    def test_books_with_one_state(self):
        for rows, letters, unknowns, length in (
                ([((-1, 0), (0, -1))], 1, 1, 4),
                ([((-1, 0, 1), (0, 1, -1))], 2, 1, 5),
                ([((-1, -2), (-2, -1))], 0, 2, 4),
                ([((-1, 0, -2), (-2, 0, -1))], 1, 2, 3),
                ([((-1, 0, -2), (-2, -1))], 1, 2, 3),
                ([((-1, -1), (-2, 0, 0, -2))], 1, 2, 4),
                ([((-1, -2, -1), (-3, 0))], 1, 3, 2),
                ([((-1, 0), (0, -2)), ((-2, 1), (1, -1))], 2, 2, 3),
                ([((0, -1), (-2, 1)), ((-1, 0), (-3, -2))], 2, 3, 2)):
            book = plain_book(*rows, letters=letters, unknowns=unknowns)
            count = sum(self.assert_step(book, at, ONE, length) for at in range(len(rows)))
            # X a Y = Y X has no filling, since its sides are never of one length.
            self.assertEqual(count == 0, rows == [((-1, 0, -2), (-2, -1))], rows)

    def test_books_with_several_states(self):
        odd, even, either = (0, (1,)), (0, (0,)), (0, (0, 1))
        a = EVEN.letter_deed("a")
        for rows, ends in (([((-1, 0), (0, -1))], (odd,)), ([((-1, -2), (-2, -1))], (odd, even)),
                           ([((-1, 0, -2), (-2, -1, 0))], (even, either)), ([((-1, -1), (-2, 0))], (either, odd))):
            letters = max([sign for row in rows for side in row for sign in side]) + 1
            book = Book(rows, (a,) * max(letters, 0), ends, 2)
            self.assertGreater(self.assert_step(book, 0, EVEN, 3), 1, rows)
        everything = (0, (0, 1, 2))
        a, b = AB.letter_deed("a"), AB.letter_deed("b")
        for rows, deeds, ends, filled in (
                ([((-1, 0), (0, -1))], (a,), ((0, (2,)),), False),
                ([((-1, 0), (0, -1))], (b,), ((0, (0,)),), True),
                ([((-1, 0, 1), (0, 1, -1))], (a, b), ((0, (2,)),), True),
                ([((-1, -2), (-2, -1))], (), ((0, (0,)), (0, (2,))), False),
                ([((-1, -2), (-2, -1))], (), ((1, (2,)), everything), True),
                ([((-1, 0, -2), (-2, 0, -1))], (a,), (everything, (0, (1, 2))), True)):
            count = self.assert_step(Book(rows, deeds, ends, 3), 0, AB, 2)
            self.assertEqual(count > 0, filled, rows)
        book = Book([((-1, -2), (-2, -1))], (), ((0, (1,)), (1, (1,))), LAST.states)
        self.assertGreater(self.assert_step(book, 0, LAST, 3), 1)


if __name__ == "__main__":
    unittest.main()
