"""Sayings and their plain meaning [2.1 to 2.5]."""

import unittest
from copy import deepcopy
from itertools import product

from pressedwords.errors import BadExpression, BadLetters, BadSaying
from pressedwords.expressions import read_expression
from pressedwords.sayings import (check_letters, check_saying, check_side, exchanged, is_item, names_of, saying_holds,
                                  side_text)
from tests.helpers import as_lists, caught, holds_list, plainly_matches, texts_up_to

WRONG_LETTERS = (0, 4, -1, True, False, "2", None, 1.0)
NO_ITEMS = ("", "?", "?abcdefghi", "?A", "?aB", "?1", "?a1", "?a ", "? a", "a?", "??", "ab", "A", "d", " ", "empty",
            "=", "?\u00e9", "\u0430", None, 0, 1, True, ("a",), ["?x"], b"a", {"a": 1})
ANY = ("any",)
GOOD = ("alike", ("a", "?x"), ("?x", "a"))


def nested(depth, inner=GOOD, word="not"):
    """A saying that nests so deep, with the inner one innermost."""
    for _ in range(depth - 1):
        inner = (word, inner)
    return inner


class ItemsTest(unittest.TestCase):
    def test_check_letters(self):
        self.assertEqual([check_letters(letters) for letters in (1, 2, 3)], [1, 2, 3])
        for letters in WRONG_LETTERS:
            self.assertEqual(caught(BadLetters, check_letters, letters), ())

    def test_items(self):
        for thing in ("a", "b", "c", "?x", "?abcdefgh", "?zzzzzzzz", "?a", "?empty"):
            self.assertIs(is_item(thing, 3), True)
        for thing in NO_ITEMS:
            self.assertIs(is_item(thing, 3), False, thing)
        self.assertIs(is_item("b", 1), False)
        self.assertIs(is_item("c", 2), False)
        for letters in WRONG_LETTERS:
            self.assertEqual(caught(BadLetters, is_item, None, letters), ())

    def test_check_side(self):
        self.assertEqual(check_side([], 1), ())
        self.assertEqual(check_side(["a", "?x", "b"], 2), ("a", "?x", "b"))
        self.assertEqual(check_side(("a",), 1), ("a",))
        self.assertIs(type(check_side(["a"], 1)), tuple)
        for thing in (None, "", "a", "?x", {"a": 1}, {"a"}, 0, iter("a")):
            self.assertEqual(caught(BadSaying, check_side, thing, 3), ("side",))
        for item in NO_ITEMS:
            self.assertEqual(caught(BadSaying, check_side, ("a", item), 3), ("side",))
        self.assertEqual(caught(BadSaying, check_side, ("c",), 2), ("side",))
        for letters in WRONG_LETTERS:
            self.assertEqual(caught(BadLetters, check_side, None, letters), ())
            self.assertEqual(caught(BadLetters, check_side, (), letters), ())


class CheckSayingTest(unittest.TestCase):
    def test_takes_each_word(self):
        for saying in (GOOD, ("alike", (), ()), ("in", ("?x",), ("again", ANY)), ("in", (), ("empty",)),
                       ("not", GOOD), ("and", GOOD), ("or", GOOD), ("and", GOOD, ("not", GOOD), ("or", GOOD, GOOD))):
            self.assertEqual(check_saying(saying, 2), saying)
            told = check_saying(as_lists(saying), 2)
            self.assertEqual(told, saying)
            self.assertFalse(holds_list(told))

    def test_what_is_passed_in_stays(self):
        saying = ("and", GOOD, ("in", ("?x",), ("again", ("letter", "a"))))
        given = as_lists(saying)
        before = deepcopy(given)
        told = check_saying(given, 2)
        self.assertEqual(given, before)
        given[1][1].append("b")
        given[2][2][1][1] = "b"
        given.pop()
        self.assertEqual(told, saying)

    def test_letters_come_first(self):
        for letters in WRONG_LETTERS:
            self.assertEqual(caught(BadLetters, check_saying, nested(30, None), letters), ())

    def assert_bad(self, what, saying, letters=2):
        self.assertEqual(caught(BadSaying, check_saying, saying, letters), (what,))

    def test_what_is_no_saying(self):
        for wrong in (None, "", "alike", 0, True, {}, (), [], ((),), (None,), (["not"], GOOD), ("", GOOD),
                      ("Not", GOOD), ("all", GOOD), ("any",), (("not",), GOOD), ({}, GOOD), (1, GOOD)):
            self.assert_bad("saying", wrong)
            self.assert_bad("saying", ("or", GOOD, ("not", wrong)))

    def test_a_first_entry_that_claims_to_be_every_word(self):
        class Same:
            def __eq__(self, other):
                return True
        self.assert_bad("saying", (Same(), GOOD))
        self.assert_bad("saying", (Same(), ("a",), ("a",)))

    def test_wrong_numbers_of_parts(self):
        side = ("a",)
        for wrong in (("alike",), ("alike", side), ("alike", side, side, side), ("in",), ("in", side),
                      ("in", side, ANY, ANY), ("not",), ("not", GOOD, GOOD), ("and",), ("or",)):
            self.assert_bad("saying", wrong)
            self.assert_bad("saying", ["and", wrong])
        self.assertEqual(check_saying(("and", GOOD), 2), ("and", GOOD))
        self.assertEqual(check_saying(("or", GOOD), 2), ("or", GOOD))

    def test_wrong_sides(self):
        for wrong in (None, "", "ab", "?x", 0, ("c",), ("a", ""), ("?abcdefghi",), ("?X",), ("?1",), (3,), (("a",),)):
            self.assert_bad("side", ("alike", wrong, ()))
            self.assert_bad("side", ("alike", (), wrong))
            self.assert_bad("side", ("in", wrong, ANY))
        self.assert_bad("side", ("not", ("alike", ("b",), ())), 1)

    def test_wrong_expressions(self):
        for expression, what in ((None, "form"), ("a", "form"), (("letter", "c"), "letter"), (("again",), "form")):
            self.assertEqual(caught(BadExpression, check_saying, ("in", ("a",), expression), 2), (what,))
        ring = ["again"]
        ring.append(ring)
        self.assertEqual(caught(BadExpression, check_saying, ("not", ("in", ("a",), ring)), 2), ("marks",))

    def test_20_deep_and_one_more(self):
        for word in ("not", "and", "or"):
            self.assertEqual(check_saying(nested(20, GOOD, word), 2), nested(20, GOOD, word))
            self.assert_bad("deep", nested(21, GOOD, word))
        ring = ["and", GOOD]
        ring.append(ring)
        self.assert_bad("deep", ring)

    def test_deep_comes_ahead_of_every_other_fault_of_that_saying(self):
        for wrong in (None, (), ("alike",), ("alike", "a", "b"), ("in", ("a",), None), ("not", None)):
            self.assert_bad("deep", nested(21, wrong))
        self.assert_bad("saying", nested(20, None))
        self.assert_bad("side", nested(20, ("alike", "a", "b")))

    def test_the_first_of_two_faults_is_told(self):
        bad_side = ("alike", ("c",), ())
        bad_form = ("in", (), None)
        self.assert_bad("side", ("and", GOOD, bad_side, None))
        self.assert_bad("saying", ("and", GOOD, None, bad_side))
        self.assert_bad("side", ("and", bad_side, bad_form))
        self.assertEqual(caught(BadExpression, check_saying, ("and", bad_form, bad_side), 2), ("form",))
        self.assert_bad("side", ("in", ("c",), None))
        self.assert_bad("side", ("and", bad_side, nested(25)))
        self.assert_bad("deep", ("and", nested(25), bad_side))
        self.assert_bad("saying", ("not", bad_side, bad_side))


class NamesTest(unittest.TestCase):
    def test_ascending_and_once_each(self):
        saying = ("or", ("alike", ("?z", "a", "?b"), ("?ab",)),
                  ("not", ("and", ("in", ("?b", "?y", "?b"), ANY), ("alike", (), ("?a",)))))
        self.assertEqual(names_of(saying), ("?a", "?ab", "?b", "?y", "?z"))
        self.assertEqual(names_of(("alike", ("a", "b"), ())), ())
        self.assertEqual(names_of(("in", ("?x",), ANY)), ("?x",))

    def test_exchanged(self):
        saying = ("and", ("alike", ("?x", "a", "?y"), ("?z", "?x")), ("not", ("in", ("?y", "?y"), ("letter", "a"))))
        table = {"?x": ("?y", "b"), "?y": ["?x"], "?q": ("a",)}
        self.assertEqual(exchanged(saying, table),
                         ("and", ("alike", ("?y", "b", "a", "?x"), ("?z", "?y", "b")),
                          ("not", ("in", ("?x", "?x"), ("letter", "a")))))
        self.assertEqual(table, {"?x": ("?y", "b"), "?y": ["?x"], "?q": ("a",)})
        self.assertFalse(holds_list(exchanged(saying, table)))

    def test_sides_put_in(self):
        self.assertEqual(exchanged(("alike", ("?x",), ("?x", "a", "?x")), {"?x": []}), ("alike", (), ("a",)))
        self.assertEqual(exchanged(("or", GOOD, GOOD), {}), ("or", GOOD, GOOD))
        self.assertEqual(exchanged(GOOD, {"a": ("b",), "?x": ("?x", "?x")}),
                         ("alike", ("a", "?x", "?x"), ("?x", "?x", "a")))
        self.assertEqual(exchanged(("in", ("?x",), ANY), {"?x": ["a", "?x"]}), ("in", ("a", "?x"), ANY))

    def test_later_changes_of_the_table_have_no_effect(self):
        table = {"?x": ["a"]}
        told = exchanged(("alike", ("?x",), ()), table)
        table["?x"].append("b")
        self.assertEqual(told, ("alike", ("a",), ()))


class MeaningTest(unittest.TestCase):
    def test_side_text(self):
        texts = {"?x": "ab", "?y": "", "?z": "c"}
        self.assertEqual(side_text((), texts), "")
        self.assertEqual(side_text(("a", "?x", "?y", "?x", "c"), texts), "aababc")
        self.assertEqual(side_text(("a", "b"), {}), "ab")
        self.assertEqual(side_text(("?1",), {"?1": "ba"}), "ba")

    def test_alike(self):
        self.assertIs(saying_holds(("alike", (), ()), {}), True)
        self.assertIs(saying_holds(("alike", (), ("?x",)), {"?x": ""}), True)
        self.assertIs(saying_holds(("alike", (), ("?x",)), {"?x": "a"}), False)
        for first, second in product(texts_up_to("ab", 3), repeat=2):
            texts = {"?x": first, "?y": second}
            self.assertIs(saying_holds(("alike", ("?x", "?y"), ("?y", "?x")), texts), first + second == second + first)

    def test_in(self):
        for printed in ("(ab)*", "a|_", ".*ba"):
            expression = read_expression(printed, 2)
            for text in texts_up_to("ab", 4):
                self.assertIs(saying_holds(("in", ("?x",), expression), {"?x": text}),
                              plainly_matches(expression, text))
                self.assertIs(saying_holds(("in", ("b", "?x", "?x"), expression), {"?x": text}),
                              plainly_matches(expression, "b" + text + text))
        self.assertIs(saying_holds(("in", (), ("empty",)), {}), True)
        self.assertIs(saying_holds(("in", (), ANY), {}), False)

    def test_not_and_or(self):
        true, false = ("alike", (), ()), ("alike", ("a",), ())
        self.assertIs(saying_holds(("not", true), {}), False)
        self.assertIs(saying_holds(("not", false), {}), True)
        for many in (1, 2, 3):
            for parts in product((true, false), repeat=many):
                self.assertIs(saying_holds(("and",) + parts, {}), false not in parts)
                self.assertIs(saying_holds(("or",) + parts, {}), true in parts)
                self.assertIs(saying_holds(("not", ("and",) + parts), {}), false in parts)


if __name__ == "__main__":
    unittest.main()
