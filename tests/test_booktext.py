"""The printed form of books [2.9 to 2.11]."""

import random
import unittest

from pressedwords.books import Book
from pressedwords.booktext import book_text, read_book, read_whole
from pressedwords.errors import BadText
from tests.helpers import caught, holds_list

BOOK = Book((((0, 1, -1), (-1, 1, 0)), ((), (-2,)), ((-2, -1), ())), ((0, 1, 2), (2, 2, 0)),
            ((0, (1, 2)), (2, ())), 3)
TEXT = """states 3
letter 0 1 2
letter 2 2 0
unknown 0 : 1 2
unknown 2 :
row 0 1 ?0 = ?0 1 0
row = ?1
row ?1 ?0 ="""


def random_book(chance):
    states = chance.randint(1, 12)
    deeds = [[chance.randrange(states) for _ in range(states)] for _ in range(chance.randint(0, 3))]
    ends = [(chance.randrange(states), sorted(chance.sample(range(states), chance.randint(0, states))))
            for _ in range(chance.randint(0, 12))]
    signs = list(range(len(deeds))) + [-1 - number for number in range(len(ends))]
    rows = [[[chance.choice(signs) for _ in range(chance.randint(0, 4) if signs else 0)] for _ in range(2)]
            for _ in range(chance.randint(0, 4))]
    return Book(rows, deeds, ends, states)


class ReadWholeTest(unittest.TestCase):
    def test_number_words(self):
        for word, number in (("0", 0), ("1", 1), ("10", 10), ("907", 907), ("999999999", 999999999)):
            self.assertEqual(read_whole(word), number)

    def test_what_is_none(self):
        for word in ("", "00", "01", "0123456789", "1000000000", "-1", "+1", "1.0", " 1", "1 ", "1_0", "a", "1a", "?0",
                     "\u0661", "\u00b2", "\n", "1\n", "0x1", "-0", "None"):
            self.assertIsNone(read_whole(word), word)


class BookTextTest(unittest.TestCase):
    def test_prints_lines(self):
        self.assertEqual(book_text(BOOK), TEXT)
        self.assertEqual(book_text(Book((), (), ())), "states 1")
        self.assertEqual(book_text(Book([[[], []]], [], [])), "states 1\nrow =")
        self.assertEqual(book_text(Book([[[-1], []]], [], [(0, [])])), "states 1\nunknown 0 :\nrow ?0 =")
        many = Book((((11, -11), ()),), ((0,),) * 12, ((0, (0,)),) * 11)
        self.assertEqual(book_text(many).split("\n")[-1], "row 11 ?10 =")

    def test_printed_books_are_read_back(self):
        self.assertEqual(read_book(TEXT), BOOK)
        self.assertFalse(holds_list(read_book(TEXT).key))
        chance = random.Random(1)
        for _ in range(200):
            book = random_book(chance)
            self.assertEqual(read_book(book_text(book)), book)
            self.assertEqual(book_text(read_book(book_text(book))), book_text(book))


class ReadBookTest(unittest.TestCase):
    def assert_bad(self, line, place, text):
        self.assertEqual(caught(BadText, read_book, text), (line, place), text)

    def test_smallest_texts(self):
        self.assertEqual(read_book("states 1"), Book((), (), ()))
        self.assertEqual(read_book("states 999999999").states, 999999999)
        self.assertEqual(read_book("states 2\nunknown 1 :").ends, ((1, ()),))
        self.assertEqual(read_book("states 1\nrow =\nrow =").rows, (((), ()), ((), ())))

    def test_the_first_line(self):
        for place, text in ((0, ""), (0, " "), (0, "state 1"), (0, "letter 0"), (0, "row ="), (0, "1"),
                            (0, " states 1"), (1, "states"), (1, "states "), (1, "states 0"), (1, "states 01"),
                            (1, "states -1"), (1, "states x"), (1, "states  1"), (1, "states 1000000000"),
                            (2, "states 1 "), (2, "states 1 1"), (2, "states 2 x"), (0, "\nstates 1"), (0, "States 1")):
            self.assert_bad(0, place, text)

    def test_the_first_words_of_later_lines(self):
        for line, text in ((1, "states 1\n"), (1, "states 1\n\nrow ="), (1, "states 1\nstates 1"), (1, "states 1\nx"),
                           (2, "states 1\nunknown 0 :\nletter 0"), (2, "states 1\nrow =\nunknown 0 :"),
                           (2, "states 1\nrow =\nletter 0"), (2, "states 1\nrow =\nstates 1"),
                           (2, "states 1\nletter 0\nstates 1"), (2, "states 1\nletter 0\n letter 0"),
                           (2, "states 1\nunknown 0 :\nunknowns 0 :"), (3, "states 1\nletter 0\nrow =\n")):
            self.assert_bad(line, 0, text)

    def test_letters(self):
        head = "states 3\nletter 0 0 0\n"
        for place, line in ((1, "letter"), (1, "letter "), (1, "letter 3"), (1, "letter x 0 0"), (1, "letter -1 0 0"),
                            (1, "letter 00 0 0"), (2, "letter 0"), (2, "letter 0 3 0"), (2, "letter 0 ?0 0"),
                            (2, "letter 0  0 0"), (3, "letter 0 1"), (3, "letter 0 1 3"), (4, "letter 0 1 2 "),
                            (4, "letter 0 1 2 0"), (4, "letter 0 1 2 x")):
            self.assert_bad(2, place, head + line)
            self.assert_bad(2, place, head + line + "\nnonsense")
        self.assert_bad(1, 1, "states 999999999\nletter")

    def test_unknowns(self):
        head = "states 3\nunknown 0 :\n"
        for place, line in ((1, "unknown"), (1, "unknown "), (1, "unknown :"), (1, "unknown 3 :"), (1, "unknown x : 0"),
                            (1, "unknown 00 :"), (2, "unknown 0"), (2, "unknown 0 0"), (2, "unknown 0 "),
                            (2, "unknown 0 ::"), (2, "unknown 0 = 0"), (3, "unknown 0 : :"), (3, "unknown 0 : 3"),
                            (3, "unknown 0 : "), (4, "unknown 0 : 1 1"), (4, "unknown 0 : 1 0"), (4, "unknown 0 : 0 3"),
                            (5, "unknown 0 : 0 2 1"), (6, "unknown 0 : 0 1 2 0"), (6, "unknown 0 : 0 1 2 "),
                            (5, "unknown 0 : 0 1 x")):
            self.assert_bad(2, place, head + line)
            self.assert_bad(2, place, head + line + "\nnonsense")

    def test_rows(self):
        head = "states 1\nletter 0\nletter 0\nunknown 0 : 0\nrow 1 ?0 = 0\n"
        for place, line in ((1, "row"), (1, "row "), (1, "row 2 = 0"), (1, "row ?1 = 0"), (1, "row x ="),
                            (1, "row -1 ="), (1, "row ? ="), (1, "row ?00 ="), (1, "row ?-1 ="), (1, "row 00 ="),
                            (2, "row 0"), (2, "row 0  = 0"), (2, "row = ="), (2, "row = 2"), (2, "row = "),
                            (3, "row 0 = ?1"), (3, "row 0 = ="), (4, "row 0 = 0 = 0"), (3, "row 0 1"),
                            (4, "row 0 1 ?0"), (3, "row 0 ?0 2 ="), (4, "row = 0 1 x"), (1, "row ??0 ="),
                            (2, "row = ?999999999")):
            self.assert_bad(5, place, head + line)
            self.assert_bad(5, place, head + line + "\nnonsense")

    def test_signs_need_their_lines_above(self):
        self.assert_bad(1, 1, "states 1\nrow 0 =")
        self.assert_bad(1, 2, "states 1\nrow = ?0")
        self.assert_bad(2, 1, "states 1\nletter 0\nrow ?0 = 0")
        self.assert_bad(2, 3, "states 1\nunknown 0 :\nrow ?0 = 0")

    def test_the_first_wrong_line_is_told(self):
        self.assert_bad(1, 1, "states 1\nletter 1\nunknown 1 :")
        self.assert_bad(2, 1, "states 1\nletter 0\nunknown 1 :\nletter 0")

    def test_every_word_left_out_doubled_or_exchanged(self):
        lines = [line.split(" ") for line in TEXT.split("\n")]
        for number, words in enumerate(lines):
            for place in range(len(words)):
                for put in ([], [words[place]] * 2, ["x"], [""], ["="], [":"], ["3"], ["?2"], ["row"], ["states"]):
                    changed = words[:place] + put + words[place + 1:]
                    text = "\n".join(" ".join(line) for line in lines[:number] + [changed] + lines[number + 1:])
                    try:
                        book = read_book(text)
                    except BadText as error:
                        self.assertLessEqual((number, 0), (error.line, error.place))
                        if place and error.line == number:
                            self.assertLessEqual(place, error.place)
                    else:
                        self.assertEqual(book_text(book), text)


if __name__ == "__main__":
    unittest.main()
