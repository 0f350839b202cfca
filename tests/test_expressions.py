"""Expressions and their printed form [3.1 to 3.6]."""

import random
import unittest
from copy import deepcopy

from pressedwords.errors import BadExpression, BadLetters, BadText
from pressedwords.expressions import (alphabet_of, check_expression, expression_text, matches, read_expression)
from tests.helpers import as_lists, caught, holds_list, plainly_matches, texts_up_to

A = ("letter", "a")
B = ("letter", "b")
C = ("letter", "c")
ANY = ("any",)
EMPTY = ("empty",)
WRONG_LETTERS = (0, 4, -1, True, False, "2", None, 1.0, (1,), [2])


def behind(*parts):
    return parts[0] if len(parts) == 1 else ("behind", behind(*parts[:-1]), parts[-1])


def either(*parts):
    return parts[0] if len(parts) == 1 else ("either", either(*parts[:-1]), parts[-1])


def again(part):
    return ("again", part)


def marks(expression):
    return 1 + sum(marks(part) for part in expression[1:] if isinstance(part, tuple))


def random_expression(chance, depth, letters="ab"):
    word = chance.choice(["letter", "any", "empty", "behind", "either", "again"][:6 if depth else 3])
    if word == "letter":
        return ("letter", chance.choice(letters))
    if word in ("any", "empty"):
        return (word,)
    parts = 1 if word == "again" else 2
    return (word,) + tuple(random_expression(chance, depth - 1, letters) for _ in range(parts))


def chain_of(many):
    """An expression of many marks, for an odd number."""
    return behind(*[A] * ((many + 1) // 2))


class AlphabetTest(unittest.TestCase):
    def test_alphabets(self):
        self.assertEqual([alphabet_of(letters) for letters in (1, 2, 3)], ["a", "ab", "abc"])

    def test_wrong_letters(self):
        for letters in WRONG_LETTERS:
            self.assertEqual(caught(BadLetters, alphabet_of, letters), ())


class CheckTest(unittest.TestCase):
    def test_takes_each_word(self):
        for thing in (A, C, ANY, EMPTY, behind(A, B), either(ANY, EMPTY), again(again(C))):
            self.assertEqual(check_expression(thing, 3), thing)
            self.assertEqual(check_expression(as_lists(thing), 3), thing)
            self.assertFalse(holds_list(check_expression(as_lists(thing), 3)))

    def test_what_is_passed_in_stays(self):
        thing = as_lists(either(behind(A, B), again(ANY)))
        before = deepcopy(thing)
        told = check_expression(thing, 2)
        self.assertEqual(thing, before)
        thing[1][1][1] = "b"
        thing.clear()
        self.assertEqual(told, either(behind(A, B), again(ANY)))

    def test_letters_come_first(self):
        for letters in WRONG_LETTERS:
            self.assertEqual(caught(BadLetters, check_expression, None, letters), ())

    def assert_bad(self, what, thing, letters=2):
        self.assertEqual(caught(BadExpression, check_expression, thing, letters), (what,))

    def test_wrong_forms(self):
        for wrong in (None, "", "a", "any", 0, True, {}, {"any"}, (), [], ("any", A), ("any", "a"), ("empty", EMPTY),
                      ("letter",), ("letter", "a", "b"), ("behind",), ("behind", A), ("behind", A, A, A),
                      ("either", A), ("either", A, A, A), ("again",), ("again", A, A), ("Any",), ("",), (None,),
                      (("any",),), (["letter"], "a"), ({}, A), (1, A), ("not", A)):
            self.assert_bad("form", wrong)
            self.assert_bad("form", ("again", wrong))
            self.assert_bad("form", ("either", A, ("behind", A, wrong)))

    def test_wrong_letters_of_a_mark(self):
        for wrong in ("", "c", "ab", "A", "d", " ", None, 0, ("a",), ["a"], b"a", True):
            self.assert_bad("letter", ("letter", wrong))
            self.assert_bad("letter", ("either", ("letter", wrong), A))
        self.assert_bad("letter", ("letter", "b"), 1)
        self.assertEqual(check_expression(("letter", "b"), 2), B)

    def test_the_first_wrong_mark_in_reading_order_is_told(self):
        wrong_letter = ("letter", "c")
        self.assert_bad("letter", ("either", wrong_letter, None))
        self.assert_bad("form", ("either", None, wrong_letter))
        self.assert_bad("letter", ("either", ("behind", A, wrong_letter), ("again",)))
        self.assert_bad("form", ("either", wrong_letter))
        self.assert_bad("form", ("either", ("again", ("behind", A, 5)), wrong_letter))

    def test_40_marks_and_one_more(self):
        self.assertEqual(check_expression(again(chain_of(39)), 1), again(chain_of(39)))
        self.assertEqual(marks(again(chain_of(39))), 40)
        self.assert_bad("marks", chain_of(41))
        thing = A
        for _ in range(39):
            thing = again(thing)
        self.assertEqual(check_expression(thing, 1), thing)
        self.assert_bad("marks", again(thing))

    def test_the_41st_mark_is_told_whatever_it_is(self):
        for wrong in (None, ("letter", "c"), (), A):
            self.assert_bad("marks", ("behind", chain_of(39), wrong))
        self.assert_bad("form", ("behind", chain_of(37), None))
        self.assert_bad("letter", ("behind", chain_of(37), ("letter", "c")))

    def test_a_list_that_contains_itself(self):
        ring = ["again"]
        ring.append(ring)
        self.assert_bad("marks", ring)
        pair = ["either", A]
        pair.append(pair)
        self.assert_bad("marks", pair)
        odd = ["behind"]
        odd.append(odd)
        self.assert_bad("form", odd)
        word = []
        word.append(word)
        self.assert_bad("form", word)


class MatchesTest(unittest.TestCase):
    def test_each_word(self):
        for expression, texts in ((A, ["a"]), (ANY, ["a", "b"]), (EMPTY, [""]), (behind(A, ANY), ["aa", "ab"]),
                                  (either(A, EMPTY), ["", "a"]), (again(B), ["", "b", "bb", "bbb"]),
                                  (again(behind(A, B)), ["", "ab"]), (behind(again(A), B), ["b", "ab", "aab"])):
            told = [text for text in texts_up_to("ab", 3) if matches(expression, text)]
            self.assertEqual(told, texts)
        self.assertIs(matches(A, "a"), True)
        self.assertIs(matches(A, "b"), False)

    def test_an_again_of_an_again_and_of_empty(self):
        self.assertEqual([text for text in texts_up_to("ab", 2) if matches(again(again(A)), text)], ["", "a", "aa"])
        self.assertEqual([text for text in texts_up_to("ab", 2) if matches(again(EMPTY), text)], [""])
        self.assertEqual([text for text in texts_up_to("ab", 2) if matches(again(either(EMPTY, B)), text)],
                         ["", "b", "bb"])

    def test_a_text_of_200_letters(self):
        deep = A
        for _ in range(39):
            deep = again(deep)
        self.assertIs(matches(deep, "a" * 200), True)
        self.assertIs(matches(deep, "a" * 199 + "b"), False)
        some = again(either(A, behind(A, B)))
        self.assertIs(matches(some, "aab" * 66 + "ab"), True)
        self.assertIs(matches(some, "aab" * 66 + "bb"), False)
        self.assertIs(matches(again(behind(ANY, ANY)), "abc" * 66 + "ab"), True)
        self.assertIs(matches(again(behind(ANY, ANY)), "abc" * 66 + "a"), False)
        wide = behind(*[again(either(A, EMPTY))] * 8)
        self.assertIs(matches(wide, "a" * 200), True)

    def test_against_the_plain_meaning(self):
        chance = random.Random(3)
        texts = texts_up_to("ab", 5)
        for _ in range(150):
            expression = random_expression(chance, 4)
            for text in texts:
                self.assertEqual(matches(expression, text), plainly_matches(expression, text), (expression, text))


PRINTED = (
    ("a", A), (".", ANY), ("_", EMPTY), ("a*", again(A)), ("a**", again(again(A))), ("_*", again(EMPTY)),
    ("ab", behind(A, B)), ("abc", behind(A, B, C)), ("a(bc)", behind(A, behind(B, C))),
    ("a|b", either(A, B)), ("a|b|c", either(A, B, C)), ("a|(b|c)", either(A, either(B, C))),
    ("(a|b)c", behind(either(A, B), C)), ("a(b|c)", behind(A, either(B, C))),
    ("(a|b)(b|c)", behind(either(A, B), either(B, C))),
    ("ab|c", either(behind(A, B), C)), ("a|bc", either(A, behind(B, C))),
    ("ab|bc|.", either(behind(A, B), behind(B, C), ANY)),
    ("(ab)*", again(behind(A, B))), ("(a|b)*", again(either(A, B))), ("ab*", behind(A, again(B))),
    ("a*b", behind(again(A), B)), ("a*b*", behind(again(A), again(B))), ("a|b*", either(A, again(B))),
    ("(ab)**", again(again(behind(A, B)))), ("a*|b", either(again(A), B)),
    ("((a|b)c)*", again(behind(either(A, B), C))), ("(a(bc))*", again(behind(A, behind(B, C)))),
    ("a((b|c)a)", behind(A, behind(either(B, C), A))), ("(a|(b|c))*", again(either(A, either(B, C)))),
)


class PrintedTest(unittest.TestCase):
    def test_brackets_stand_only_where_they_are_needed(self):
        for text, expression in PRINTED:
            self.assertEqual(expression_text(expression), text)

    def test_printed_text_is_read_back(self):
        chance = random.Random(5)
        for _ in range(400):
            expression = random_expression(chance, 4, "abc")
            if marks(expression) <= 40:
                text = expression_text(expression)
                self.assertEqual(read_expression(text, 3), expression)
                self.assertNotIn(" ", text)
                self.assertTrue(text)

    def test_no_bracket_can_be_left_out(self):
        chance = random.Random(6)
        for _ in range(150):
            expression = random_expression(chance, 4, "abc")
            text = expression_text(expression)
            if marks(expression) > 40:
                continue
            for begin, end in bracket_places(text):
                bare = text[:begin] + text[begin + 1:end] + text[end + 1:]
                self.assertNotEqual(read_expression(bare, 3), expression)


def bracket_places(text):
    waiting, found = [], []
    for place, sign in enumerate(text):
        if sign == "(":
            waiting.append(place)
        elif sign == ")":
            found.append((waiting.pop(), place))
    return found


class ReadTest(unittest.TestCase):
    def test_reads(self):
        for text, expression in PRINTED:
            self.assertEqual(read_expression(text, 3), expression)
        self.assertFalse(holds_list(read_expression("(a|b)*c.", 3)))

    def test_needless_brackets(self):
        self.assertEqual(read_expression("(a*)*", 1), again(again(A)))
        self.assertEqual(read_expression("((a)(b))", 2), behind(A, B))
        self.assertEqual(read_expression("(ab)c", 3), behind(A, B, C))
        self.assertEqual(read_expression("(a|b)|(c)", 3), either(A, B, C))
        self.assertEqual(read_expression("((((a))))*", 3), again(A))

    def test_40_brackets_may_be_open_at_once(self):
        self.assertEqual(read_expression("(" * 40 + "a" + ")" * 40, 1), A)
        self.assert_text_bad(40, "(" * 41 + "a" + ")" * 41)
        self.assert_text_bad(41, "(" * 39 + "a(" + "(a" + ")" * 41)
        self.assertEqual(read_expression("(" * 40 + "a" + ")" * 40 + "(" * 40 + "a" + ")" * 40, 1), behind(A, A))
        self.assertEqual(read_expression("((a))" * 10, 1), behind(*[A] * 10))

    def assert_text_bad(self, place, text, letters=2):
        self.assertEqual(caught(BadText, read_expression, text, letters), (0, place), text)

    def test_the_examples(self):
        self.assert_text_bad(0, "")
        self.assert_text_bad(2, "(a")
        self.assert_text_bad(1, "()")

    def test_places_of_wrong_signs(self):
        for place, text in ((0, "*"), (0, "|"), (0, ")"), (1, "a)"), (1, "(*"), (1, "(|a)"), (2, "a|*"), (2, "a||b"),
                            (3, "(a|)"), (4, "(ab))"), (0, " "), (1, "a b"), (1, "a\n"), (2, "ab?"), (1, "aA"),
                            (2, "ab=a)"), (3, "a*|)"), (0, "+"), (1, "a\u0430"), (4, "(a)*)*"), (2, "((")):
            self.assert_text_bad(place, text)

    def test_places_of_texts_that_end_too_early(self):
        for text in ("", "(", "a|", "(a|b", "((a)", "a(", "(a*", "a*|", "ab|(b"):
            self.assert_text_bad(len(text), text)

    def test_letters_outside_of_the_alphabet_never_fit(self):
        self.assert_text_bad(0, "b", 1)
        self.assert_text_bad(2, "a|b", 1)
        self.assert_text_bad(1, "ac", 2)
        self.assertEqual(read_expression("ac", 3), behind(A, C))
        self.assert_text_bad(2, "acd", 3)

    def test_letters_come_first(self):
        for letters in WRONG_LETTERS:
            self.assertEqual(caught(BadLetters, read_expression, ")" * 500, letters), ())

    def test_400_signs_and_one_more(self):
        self.assertEqual(caught(BadExpression, read_expression, "a" * 400, 1), ("marks",))
        self.assert_text_bad(400, "a" * 401)
        self.assert_text_bad(400, ")" * 401)
        self.assert_text_bad(0, ")" * 400)
        self.assert_text_bad(399, "a" * 399 + ")")
        self.assert_text_bad(400, "a" * 399 + "|")
        row = "(((((((((a)))))))))" * 20
        self.assertEqual(read_expression(row + "*", 1), behind(*[A] * 19, again(A)))

    def test_more_than_40_marks_come_last(self):
        self.assertEqual(read_expression("a" * 20, 1), behind(*[A] * 20))
        self.assertEqual(read_expression("a" * 20 + "*", 1), behind(*[A] * 19, again(A)))
        self.assertEqual(caught(BadExpression, read_expression, "a" * 21, 1), ("marks",))
        self.assertEqual(caught(BadExpression, read_expression, "a" * 20 + "**", 1), ("marks",))
        self.assertEqual(read_expression("a" + "*" * 39, 1)[0], "again")
        self.assertEqual(caught(BadExpression, read_expression, "a" + "*" * 40, 1), ("marks",))
        self.assertEqual(caught(BadExpression, read_expression, "|".join("a" * 21), 1), ("marks",))
        self.assert_text_bad(30, "a" * 30 + ")")
        self.assert_text_bad(31, "a" * 30 + "(")


if __name__ == "__main__":
    unittest.main()
