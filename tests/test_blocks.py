"""The block step [7.4 to 7.11]."""

import unittest
from itertools import product

from pressedwords.blocks import Shape, block_guesses, shapes_of
from pressedwords.books import Book, Clash
from pressedwords.carries import Carries, whole
from pressedwords.deeds import deed_times
from pressedwords.forms import form_value, length_choices
from pressedwords.guesses import Guess, opened_side
from pressedwords.settling import start_of
from tests.helpers import check_result, holds_list, lot_for
from tests.meaning import Meaning, filled_length, written_out

ONE = lot_for([], 2)
EVEN = lot_for(["(aa)*"], 1)
AB = lot_for([".*ab.*"], 2)
LATE = lot_for(["aaa(aa)*"], 1)


def plain_book(*rows):
    signs = [sign for row in rows for side in row for sign in side]
    return Book(rows, ((0,),) * (1 + max(signs + [-1])), ((0, (0,)),) * -min(signs + [0]))


def guessed(book, letters, lot=ONE):
    return list(block_guesses(book, letters, lot))


def brief(shapes):
    return [(tuple(block[0] for block in shape.front), shape.stays, tuple(block[0] for block in shape.back))
            for shape in shapes]


class ShapesTest(unittest.TestCase):
    def test_shape_is_a_result(self):
        check_result(self, Shape, ["front", "stays", "back", "ends"])

    def test_each_kind_in_its_order(self):
        # X stands behind 0 and 2, and ahead of 0 and 1.
        book = plain_book(((0, -1, 1, 1, 2), (-1, 0, 2, -1, 0, 2)))
        self.assertEqual(brief(shapes_of(book, 0, (0, 1, 2), ONE)), [
            ((0,), False, ()), ((1,), False, ()), ((2,), False, ()),
            ((0, 1), False, ()), ((2, 0), False, ()), ((2, 1), False, ()),
            ((0,), True, (0,)), ((0,), True, (1,)), ((2,), True, (0,)), ((2,), True, (1,)),
            ((0,), True, ()), ((2,), True, ()),
            ((), True, (0,)), ((), True, (1,)),
            ((), True, ())])
        self.assertEqual(shapes_of(book, 0, (0,), ONE), (
            Shape(((0, 1, 1),), False, (), (0, (0,))),
            Shape(((0, 1, 1),), True, ((0, 1, 1),), (0, (0,))),
            Shape(((0, 1, 1),), True, (), (0, (0,))),
            Shape((), True, ((0, 1, 1),), (0, (0,))),
            Shape((), True, (), (0, (0,)))))

    def test_letters_that_are_no_block_letters_do_not_count(self):
        book = plain_book(((0, -1, 1, 1, 2), (-1, 0, 2, -1, 0, 2)))
        self.assertEqual(brief(shapes_of(book, 0, (1,), ONE)),
                         [((1,), False, ()), ((), True, (1,)), ((), True, ())])
        self.assertEqual(brief(shapes_of(book, 0, (), ONE)), [((), True, ())])
        self.assertEqual(brief(shapes_of(book, 0, [2], ONE)),
                         [((2,), False, ()), ((2,), True, ()), ((), True, ())])

    def test_an_unknown_beside(self):
        book = plain_book(((-1, -2, 0, 0), (0, 0, 1, 1, -2, -1)))
        every = [((0,), False, ()), ((1,), False, ())]
        # Y stands behind X and behind 1, ahead of X and of 0.
        self.assertEqual(brief(shapes_of(book, 1, (0, 1), ONE)),
                         every + [((0, 1), False, ()), ((1, 0), False, ())]
                         + [((one,), True, (other,)) for one in (0, 1) for other in (0, 1)]
                         + [((0,), True, ()), ((1,), True, ()), ((), True, (0,)), ((), True, (1,)), ((), True, ())])
        book = plain_book(((-1, -1, 0), (0, 1, 1, -2)))
        self.assertEqual(len(shapes_of(book, 0, (0, 1), ONE)), 2 + 2 + 4 + 2 + 2 + 1)
        self.assertEqual(brief(shapes_of(book, 1, (0, 1), ONE)), [((1,), False, ()), ((1,), True, ()), ((), True, ())])

    def test_an_unknown_on_one_side_alone(self):
        book = plain_book(((-1, -2), (0, 1, 1, -1)))
        self.assertEqual(brief(shapes_of(book, 0, (0, 1), ONE)),
                         [((0,), False, ()), ((1,), False, ()), ((1, 0), False, ()),
                          ((1,), True, (0,)), ((1,), True, (1,)), ((1,), True, ()),
                          ((), True, (0,)), ((), True, (1,)), ((), True, ())])

    def test_lengths_the_front_block_slowest(self):
        a = LATE.letter_deed("a")
        everything = (0, tuple(range(LATE.states)))
        book = Book([((0, -1, 1), (-1, 0, 1))], (a, a), (everything,), LATE.states)
        lengths = [(1, 0), (2, 2), (3, 2)]
        self.assertEqual(length_choices(a), tuple(lengths))
        shapes = shapes_of(book, 0, (0, 1), LATE)
        self.assertEqual([shape.front for shape in shapes if not shape.stays and len(shape.front) == 2],
                         [((0,) + one, (1,) + other) for one in lengths for other in lengths])
        self.assertEqual([(shape.front, shape.back) for shape in shapes if shape.front and shape.back
                          and shape.back[0][0] == 1],
                         [(((0,) + one,), ((1,) + other,)) for one in lengths for other in lengths])
        self.assertEqual([shape.front for shape in shapes if not shape.stays and len(shape.front) == 1],
                         [((letter,) + one,) for letter in (0, 1) for one in lengths])

    def test_shapes_that_do_not_fit(self):
        a = EVEN.letter_deed("a")
        book = Book([((0, -1), (-1, 0))], (a,), ((0, (1,)),), 2)
        self.assertEqual(shapes_of(book, 0, (0,), EVEN)[0], Shape(((0, 1, 2),), False, (), (0, (1,))))
        alone = [shape.front for shape in shapes_of(book, 0, (0,), EVEN) if not shape.stays]
        self.assertEqual(alone, [((0, 1, 2),)])
        even = Book(book.rows, (a,), ((0, (0,)),), 2)
        self.assertEqual([shape.front for shape in shapes_of(even, 0, (0,), EVEN) if not shape.stays], [((0, 2, 2),)])
        # Behind an a no text leads back to a text without ab but of b's alone.
        a, b = AB.letter_deed("a"), AB.letter_deed("b")
        book = Book([((0, -1, 1), (-1, 0, 1))], (b, a), ((0, (0,)),), 3)
        self.assertEqual(brief(shapes_of(book, 0, (0, 1), AB)),
                         [((0,), False, ()), ((0,), True, (0,)), ((0,), True, ()), ((), True, (0,)), ((), True, ())])

    def test_ends_of_the_rest(self):
        a = EVEN.letter_deed("a")
        book = Book([((0, -1), (-1, 0))], (a,), ((0, (1,)),), 2)
        told = {(shape.front, shape.back): shape.ends for shape in shapes_of(book, 0, (0,), EVEN) if shape.stays}
        one, two = ((0, 1, 2),), ((0, 2, 2),)
        self.assertEqual(told, {(one, one): (1, (0,)), (one, two): (1, (1,)), (two, one): (0, (0,)),
                                (two, two): (0, (1,)), (one, ()): (1, (1,)), (two, ()): (0, (1,)),
                                ((), one): (0, (0,)), ((), two): (0, (1,)), ((), ()): (0, (1,))})

    def test_tuples_throughout(self):
        book = plain_book(((0, -1, 1), (-1, 0, 1)))
        for shape in shapes_of(book, 0, [0, 1], ONE):
            self.assertFalse(holds_list(tuple(vars(shape).values())))
        self.assertIs(type(shapes_of(book, 0, [0, 1], ONE)), tuple)


class GuessesTest(unittest.TestCase):
    def test_the_example(self):
        book = plain_book(((0, 0, -1), (-1, 0)))
        guesses = guessed(book, (0,))
        self.assertEqual(guesses[0], Guess(
            ((((0, (1, (1,))),), False, ()),), (("row", 0, (3, (1,))), ("row", 0, (2, (1,)))),
            Clash("front", 0), (), (), (), ()))
        self.assertNotEqual(guesses[1].parts, guesses[0].parts)

    def test_shapes_run_through_their_product_the_last_unknown_fastest(self):
        book = plain_book(((0, 0, -1), (-2, 0)), ((-1, 1), (1, -2)))
        told = []
        for guess in guessed(book, (0,)):
            if guess.parts not in told:
                told.append(guess.parts)
        letters = [[(tuple(a for a, _ in front), stays, tuple(a for a, _ in back)) for front, stays, back in parts]
                   for parts in told]
        self.assertEqual(letters, [[one, other] for one in brief(shapes_of(book, 0, (0,), ONE))
                                   for other in brief(shapes_of(book, 1, (0,), ONE))])

    def test_variables_by_unknown_then_front_before_back(self):
        book = plain_book(((0, -1, 0, 0, -2, 0), (-2, 0, -1)))
        for guess in guessed(book, (0,)):
            blocks = [form for front, _, back in guess.parts for _, form in front + back]
            many = len(blocks)
            self.assertEqual(blocks, [(1, tuple(int(at == other) for other in range(many))) for at in range(many)])

    def test_lengths_without_a_period_part_have_no_variable(self):
        a = LATE.letter_deed("a")
        everything = (0, tuple(range(LATE.states)))
        book = Book([((0, -1, 0), (-1, 0, 0, -1))], (a,), (everything,), LATE.states)
        told = []
        for guess in guessed(book, (0,), LATE):
            forms = tuple(form for front, _, back in guess.parts for _, form in front + back)
            if guess.parts[0][1] and len(forms) == 2 and forms not in told:
                told.append(forms)
        self.assertEqual(told, [
            ((1, ()), (1, ())), ((1, (0,)), (2, (2,))), ((1, (0,)), (3, (2,))),
            ((2, (2,)), (1, (0,))), ((2, (2, 0)), (2, (0, 2))), ((2, (2, 0)), (3, (0, 2))),
            ((3, (2,)), (1, (0,))), ((3, (2, 0)), (2, (0, 2))), ((3, (2, 0)), (3, (0, 2)))])

    def test_forms_of_blocks_in_rows(self):
        # 0 X 0 0 with X a block: 3 + 1 + z.
        book = plain_book(((0, -1, 0, 0, 1), (1, 0, -1)))
        guess = guessed(book, (0,))[0]
        self.assertEqual(guess.parts, ((((0, (1, (1,))),), False, ()),))
        self.assertEqual(guess.news, (("row", 0, (4, (1,))), ("row", 0, (2, (1,)))))
        self.assertEqual(guess.told, Clash("front", 0))
        whole = guessed(book, (0,))[-1]
        self.assertEqual(whole.parts, (((), True, ()),))
        self.assertEqual(whole.news, (("row", 0, (1, ())), ("row", 0, (2, ()))))
        self.assertEqual(whole.told, Clash("front", 0))

    def test_couples_of_one_class_and_of_two(self):
        book = plain_book(((-1, 1, 1, 2, 0, 0), (0, 2, 1, -2)))
        # X is a block of 1, so 3 + z of 1 come first, then 2 of 0; the other side has 1 of 0 and 1 of 1.
        parts = ((((1, (1, (1,))),), False, ()), ((), True, ()))
        told = [(guess.news, guess.equations) for guess in guessed(book, (0, 1)) if guess.parts == parts]
        news = (("row", 1, (3, (1,))), ("row", 0, (2, (0,))), ("row", 0, (1, (0,))))
        self.assertEqual(told, [(news, ((-2, (-1,)),)), (news + (("row", 1, (1, (0,))),), ())])

    def test_the_last_group_changes_fastest(self):
        # X is a block of 0 and Y one of 1; each of both groups has a couple with a variable and one without.
        book = plain_book(((-1, 0, 2, 0), (2, 1, -2, 2, 1)), ((0, -1), (1, -2)))
        parts = ((((0, (1, (1, 0))),), False, ()), (((1, (1, (0, 1))),), False, ()))
        told = [(guess.news, guess.equations) for guess in guessed(book, (0, 1)) if guess.parts == parts]
        zero, single_zero = ("row", 0, (2, (1, 0))), ("row", 0, (1, (0, 0)))
        one, single_one = ("row", 1, (2, (0, 1))), ("row", 1, (1, (0, 0)))
        self.assertEqual(told, [
            ((zero, one), ((-1, (-1, 0)), (-1, (0, -1)))),
            ((zero, one, single_one), ((-1, (-1, 0)),)),
            ((zero, single_zero, one), ((-1, (0, -1)),)),
            ((zero, single_zero, one, single_one), ())])

    def test_groups_are_ordered_by_letter_ahead_of_first_place(self):
        # The same book with the numbers of 0 and 1 exchanged: now 1 stands ahead of 0.
        book = plain_book(((-1, 1, 2, 1), (2, 0, -2, 2, 0)), ((1, -1), (0, -2)))
        parts = ((((1, (1, (1, 0))),), False, ()), (((0, (1, (0, 1))),), False, ()))
        told = [guess.equations for guess in guessed(book, (0, 1)) if guess.parts == parts]
        self.assertEqual(told, [((-1, (-1, 0)), (-1, (0, -1))), ((-1, (0, -1)),), ((-1, (-1, 0)),), ()])

    def test_equations_by_new_letters_then_in_order(self):
        book = plain_book(((-1, 0, 1, 0, 1, -2, 0, 1), (1, 0, 0, 1, -2)), ((-1, 2), (2, -2)))
        for guess in guessed(book, (0,)):
            self.check_classes(book, guess, (0,), ONE)

    def check_classes(self, book, guess, letters, lot):
        """Works out couples, groups, new letters, equations and deeds of a guess from its parts."""
        many = max([len(form[1]) for front, _, back in guess.parts for _, form in front + back], default=0)
        rows = [[blocks_of(side, guess.parts, letters, many) for side in row] for row in book.rows]
        couples = list(dict.fromkeys(entry for row in rows for side in row for entry in side if len(entry) == 2))
        firsts = [(new[1], new[2]) for new in guess.news]
        self.assertEqual(sorted(firsts, key=couples.index), firsts)
        rest = [couple for couple in couples if couple not in firsts]
        gaps = list(guess.equations)
        classes = {first: first for first in firsts}
        due = []
        for first in firsts:
            for couple in rest:
                gap = (couple[1][0] - first[1][0], tuple(x - y for x, y in zip(couple[1][1], first[1][1])))
                same = deed_times(book.deeds[couple[0]], couple[1][0]) == deed_times(book.deeds[first[0]], first[1][0])
                if gap in gaps and couple[0] == first[0] and same and couple not in classes:
                    if couples.index(couple) > couples.index(first):
                        classes[couple] = first
                        due.append(gap)
        self.assertEqual(sorted(due), sorted(gaps))
        self.assertEqual(len(classes), len(couples))

    def test_equal_forms_share_a_letter_and_different_groups_never_do(self):
        a = EVEN.letter_deed("a")
        everything = (0, (0, 1))
        book = Book([((0, -1, 0), (-1, 0, 0))], (a,), (everything,), 2)
        for guess in guessed(book, (0,), EVEN):
            self.check_classes(book, guess, (0,), EVEN)
            for number, factors in guess.equations:
                # The two forms have one deed, so their numbers are odd both or even both.
                self.assertEqual(number % 2, 0)
            for _, letter, form in guess.news:
                self.assertEqual(letter, 0)
            for letter, old in enumerate(guess.letters):
                self.assertGreaterEqual(old, 1)
                self.assertEqual(guess.told.deeds[letter], deed_times(a, guess.news[old - 1][2][0]))

    def test_blocks_of_unlike_letters_never_share_a_letter(self):
        book = plain_book(((0, 0, 1, 1, -1), (-1, 1, 1, 0, 0)))
        met = 0
        for guess in guessed(book, (0, 1)):
            self.check_classes(book, guess, (0, 1), ONE)
            blocked = {sign for row in book.rows for side in row for sign, _ in opened_side(side, guess.parts) if sign >= 0}
            self.assertEqual({letter for _, letter, _ in guess.news}, blocked)
            met = max(met, len(guess.news))
        self.assertEqual(met, 5)

    def test_guesses_whose_equations_have_no_answer_are_yielded(self):
        book = plain_book(((0, 0, -1), (-1, 0)))
        self.assertTrue(any(isinstance(whole(guess.equations), Carries) for guess in guessed(book, (0,))))

    def test_lists_for_tuples_and_tuples_throughout(self):
        book = plain_book(((0, 0, -1), (-1, 0)))
        self.assertEqual(guessed(book, [0]), guessed(book, (0,)))
        for guess in guessed(book, [0]):
            self.assertFalse(holds_list((guess.parts, guess.news, guess.letters, guess.unknowns, guess.spares,
                                         guess.equations)))

    def test_letters_that_are_no_block_letters_stay(self):
        book = plain_book(((0, 0, 1, -1), (-1, 1, 0, 0)))
        guess = guessed(book, (0,))[-1]
        self.assertEqual((guess.parts, guess.news, guess.letters), ((((), True, ()),), (("row", 0, (2, ())),), (2, 1)))
        self.assertEqual(guess.told, plain_book(((0, 1, -1), (-1, 1, 0))))

    def test_unknowns_without_a_rest_are_gone(self):
        book = plain_book(((0, 0, -1), (-1, -2, 0)))
        for guess in guessed(book, (0,)):
            gone = [number for number, part in enumerate(guess.parts) if not part[1]]
            self.assertFalse(set(gone) & (set(guess.unknowns) | {number for number, _ in guess.spares}))
            if isinstance(guess.told, Book):
                self.assertEqual(len(gone) + len(guess.unknowns) + len(guess.spares), 2)

    def test_no_block_letters(self):
        book = plain_book(((0, 0, -1), (-1, 0)))
        self.assertEqual([(guess.told, guess.news) for guess in guessed(book, ())], [(book, ())])


def blocks_of(side, parts, letters, many):
    """The blocks (letter, form) of an opened side, other signs as tuples of one."""
    entries = []
    for sign in side:
        if sign >= 0:
            entries.append((sign, (1, (0,) * many)) if sign in letters else (sign,))
        else:
            front, stays, back = parts[-1 - sign]
            entries.extend(list(front) + [(sign,)] * stays + list(back))
    merged = []
    for entry in entries:
        if merged and len(entry) == 2 and merged[-1][0] == entry[0]:
            number, factors = merged[-1][1]
            merged[-1] = (entry[0], (number + entry[1][0], tuple(map(sum, zip(factors, entry[1][1])))))
        else:
            merged.append(entry)
    return merged


def blocks_pressed(text, letters):
    tokens = []
    for token in text:
        if token[0] == "old" and token[1] in letters:
            if tokens and tokens[-1][:2] == ("row", token[1]):
                tokens[-1] = ("row", token[1], tokens[-1][2] + 1)
            else:
                tokens.append(("row", token[1], 1))
        else:
            tokens.append(token)
    return tuple(tokens)


class NothingIsLostTest(unittest.TestCase):
    """[7.9] and [7.10] for all short fillings."""

    def assert_step(self, book, letters, lot, length):
        self.assertEqual(start_of(book, lot).told, book)
        meaning = Meaning(book, lot)
        guesses = guessed(book, letters, lot)
        fillings = meaning.fillings(book, meaning.names, length)
        edges = [self.edges(book, unknown, letters) for unknown in range(len(book.ends))]
        for texts in fillings:
            self.assert_met_once(meaning, guesses, letters, edges, texts)
        for guess in guesses:
            if isinstance(guess.told, Book):
                self.assert_nothing_invented(meaning, guess, length)
        return len(fillings)

    def edges(self, book, unknown, letters):
        """The fronts and the backs, straight from [7.5]."""
        sign = -1 - unknown
        places = [(side[at], side[at + 1]) for row in book.rows for side in row for at in range(len(side) - 1)]
        ahead = {one for one, then in places if then == sign}
        behind = {then for one, then in places if one == sign}
        return [{letter for letter in letters if letter in beside or min(beside, default=0) < 0}
                for beside in (ahead, behind)]

    def taken(self, text, part, fronts, backs):
        """The lengths of the blocks that the part takes and the rest, or None."""
        front, stays, back = part
        lengths = []
        for letter, _ in front:
            many = run(text, ("old", letter))
            if many == 0:
                return None
            lengths.append(many)
            text = text[many:]
        for letter, _ in back:
            many = run(text[::-1], ("old", letter))
            if many == 0:
                return None
            lengths.append(many)
            text = text[:-many]
        if bool(text) != stays:
            return None
        if stays and not front and text[0][0] == "old" and text[0][1] in fronts:
            return None
        if stays and not back and text[-1][0] == "old" and text[-1][1] in backs:
            return None
        return lengths, text

    def numbers(self, guess, lengths):
        """The numbers of the variables at which the forms are these lengths, or None."""
        forms = [form for front, _, back in guess.parts for _, form in front + back]
        numbers = [0] * max([len(factors) for _, factors in forms], default=0)
        for (number, factors), length in zip(forms, lengths):
            at = next((place for place, factor in enumerate(factors) if factor), None)
            if at is None:
                if number != length:
                    return None
            elif length < number or (length - number) % factors[at]:
                return None
            else:
                numbers[at] = (length - number) // factors[at]
        return numbers

    def names(self, meaning, guess, numbers):
        tokens = meaning.names + [("row", letter, form_value(form, numbers)) for _, letter, form in guess.news]
        return [tokens[old] for old in guess.letters]

    def assert_met_once(self, meaning, guesses, letters, edges, texts):
        met = []
        for guess in guesses:
            taken = [self.taken(text, part, *edge) for text, part, edge in zip(texts, guess.parts, edges)]
            if None in taken:
                continue
            numbers = self.numbers(guess, [length for lengths, _ in taken for length in lengths])
            if numbers is None or any(form_value(equation, numbers) for equation in guess.equations):
                continue
            blocks = [(letter, form_value(form, numbers)) for _, letter, form in guess.news]
            if len(set(blocks)) == len(blocks):
                met.append((guess, numbers, [blocks_pressed(rest, letters) for _, rest in taken]))
        self.assertEqual(len(met), 1, (meaning.parent.rows, texts))
        guess, numbers, rests = met[0]
        self.assertIsInstance(guess.told, Book)
        names = self.names(meaning, guess, numbers)
        left = [rests[old] for old in guess.unknowns]
        self.assertTrue(meaning.fills(guess.told, names, left))
        for number, ends in guess.spares:
            self.assertTrue(meaning.fits(ends, rests[number]))
        self.assertLess(filled_length(guess.told, names, left),
                        filled_length(meaning.parent, meaning.names, texts))

    def assert_nothing_invented(self, meaning, guess, length):
        forms = [form for front, _, back in guess.parts for _, form in front + back]
        many = max([len(factors) for _, factors in forms], default=0)
        spares = [meaning.all_texts(ends, meaning.further + meaning.names, 1) for _, ends in guess.spares]
        for numbers in product(range(3), repeat=many):
            if any(form_value(equation, numbers) for equation in guess.equations):
                continue
            names = self.names(meaning, guess, numbers)
            for texts in meaning.fillings(guess.told, names, length - 1):
                for more in product(*spares):
                    rests = [()] * len(guess.parts)
                    for number, text in zip(guess.unknowns + tuple(n for n, _ in guess.spares), texts + more):
                        rests[number] = text
                    whole = [put_together(part, rest, numbers) for part, rest in zip(guess.parts, rests)]
                    self.assertTrue(meaning.fills(meaning.parent, meaning.names, whole))

    def test_books_with_one_state(self):
        count = 0
        for rows, letters, length in (
                ([((0, 0, -1), (-1, 0, 0))], (0,), 4),
                ([((0, 0, -1), (-1, 0))], (0,), 4),
                ([((0, 0, 1, -1), (-1, 1, 0, 0))], (0,), 4),
                ([((0, 0, 1, -1), (-1, 0, 0, 1))], (0,), 4),
                ([((0, 0, 1, 1, -1), (-1, 0, 0, 1, 1))], (0, 1), 4),
                ([((0, 0, 1, 1, -1), (-1, 0, 0, 1, 1))], (1,), 4),
                ([((-1, -2), (0, 0, -1))], (0,), 3),
                ([((-1, 0, 0, -2), (-2, 0, 0, -1))], (0,), 3),
                ([((-1, -1), (0, 0, -2))], (0,), 3),
                ([((-1, 0), (0, 0, -2))], (0,), 3),
                ([((0, 0, -1), (-1, 0, 0)), ((-1, 1), (1, -2))], (0,), 3)):
            count += self.assert_step(plain_book(*rows), letters, ONE, length)
        self.assertGreater(count, 30)

    def test_books_with_several_states(self):
        a = EVEN.letter_deed("a")
        count = 0
        for ends in ((0, (0,)), (0, (1,)), (0, (0, 1))):
            for rows in ([((0, 0, -1), (-1, 0, 0))], [((0, -1, 0, 0), (-1, 0, 0, -1))]):
                count += self.assert_step(Book(rows, (a,), (ends,), 2), (0,), EVEN, 4)
        for ends in (((0, (0,)), (0, (1,))), ((0, (1,)), (0, (0, 1)))):
            count += self.assert_step(Book([((-1, -2), (0, 0, -1))], (a,), ends, 2), (0,), EVEN, 3)
        a, b = AB.letter_deed("a"), AB.letter_deed("b")
        for ends in ((0, (0, 1)), (0, (2,))):
            count += self.assert_step(Book([((0, 0, 1, -1), (-1, 0, 0, 1))], (a, b), (ends,), 3), (0,), AB, 3)
            count += self.assert_step(Book([((0, 0, -1), (-1, 0, 0))], (a,), (ends,), 3), (0,), AB, 3)
        a = LATE.letter_deed("a")
        everything = (0, tuple(range(LATE.states)))
        count += self.assert_step(Book([((0, 0, -1), (-1, 0, 0))], (a,), (everything,), LATE.states), (0,), LATE, 4)
        self.assertEqual(count, 20)


def run(text, token):
    many = 0
    while many < len(text) and text[many] == token:
        many += 1
    return many


def put_together(part, rest, numbers):
    front, _, back = part
    sides = [tuple(("old", letter) for letter, form in blocks for _ in range(form_value(form, numbers)))
             for blocks in (front, back)]
    return sides[0] + written_out(rest) + sides[1]


if __name__ == "__main__":
    unittest.main()
