"""Pressing [11.9 to 11.12]."""

import random
import time
import unittest

from pressedwords.grammars import Grammar, cut_word, joined_grammars
from pressedwords.pressing import Pressed, first_unlike, press_words, same_text
from tests.helpers import check_result, holds_list
from tests.test_grammars import BIG, EXAMPLE, doubled, plain_texts, random_rules, random_word

SOON = 60


def plainly_unlike(one, other):
    if one == other:
        return None
    return next((at for at, (x, y) in enumerate(zip(one, other)) if x != y), min(len(one), len(other)))


def fibonacci(many):
    return [("text", "a"), ("text", "b")] + [("pair", at + 1, at) for at in range(many)]


def thue_morse(many):
    """Rules 2 k and 2 k + 1 are the text of 2 ** k signs and the one with a and b exchanged."""
    rules = [("text", "a"), ("text", "b")]
    for _ in range(many):
        last = len(rules)
        rules.extend([("pair", last - 2, last - 1), ("pair", last - 1, last - 2)])
    return rules


class PressWordsTest(unittest.TestCase):
    def check(self, grammar, words, texts=None):
        pressed = press_words(grammar, words)
        self.assertIsInstance(pressed.table, Grammar)
        self.assertIs(type(pressed.ends), tuple)
        self.assertEqual(len(pressed.ends), len(words))
        needed = set(pressed.ends) - {None}
        for symbol in range(len(pressed.table.rules) - 1, -1, -1):
            self.assertIn(symbol, needed)
            rule = pressed.table.rules[symbol]
            if rule[0] == "text":
                self.assertEqual(len(rule[1]), 1)
            elif rule[0] == "pair":
                self.assertNotEqual(rule[1], rule[2])
                needed |= {rule[1], rule[2]}
            else:
                self.assertGreaterEqual(rule[2], 2)
                needed.add(rule[1])
        if texts is not None:
            table = plain_texts(pressed.table.rules)
            self.assertEqual(len(set(table)), len(table))
            self.assertEqual([None if end is None else table[end] for end in pressed.ends],
                             [text or None for text in texts])
        return pressed

    def test_pressed_is_a_result(self):
        check_result(self, Pressed, ["table", "ends"])

    def test_the_example(self):
        pressed = self.check(EXAMPLE, [(1,), (4, 3, 5)], ["ababab"] * 2)
        self.assertEqual(pressed.ends[0], pressed.ends[1])
        self.assertTrue(same_text(EXAMPLE, (1,), (4, 3, 5)))
        self.assertIsNone(first_unlike(EXAMPLE, (1,), (4, 3, 5)))

    def test_small_texts(self):
        draw = random.Random(5)
        for _ in range(300):
            grammar = Grammar(random_rules(draw, draw.randrange(1, 14)))
            rules = plain_texts(grammar.rules)
            words = [random_word(draw, grammar) for _ in range(draw.randrange(1, 6))]
            texts = ["".join(rules[symbol] for symbol in word) for word in words]
            pressed = self.check(grammar, words, texts)
            for at, text in enumerate(texts):
                for other, more in enumerate(texts):
                    self.assertEqual(pressed.ends[at] == pressed.ends[other], text == more)
                    self.assertEqual(same_text(grammar, words[at], words[other]), text == more)
                    self.assertEqual(first_unlike(grammar, words[at], words[other]), plainly_unlike(text, more))

    def test_rows_within_rows(self):
        draw = random.Random(6)
        for _ in range(200):
            letters = draw.choice(("ab", "abc"))
            rules = [("text", "".join(draw.choice(letters) for _ in range(draw.randrange(1, 9)))) for _ in range(2)]
            for _ in range(draw.randrange(1, 6)):
                last = len(rules)
                rules.append(("row", draw.randrange(last), draw.randrange(2, 5)))
                rules.append(("pair", last, draw.randrange(last)))
                if len(plain_texts(rules)[-1]) > 600:
                    break
            grammar = Grammar(rules)
            texts = plain_texts(rules)
            words = [(len(rules) - 1,), (len(rules) - 2,), (0, len(rules) - 2)]
            self.check(grammar, words, ["".join(texts[symbol] for symbol in word) for word in words])

    def test_no_words_and_empty_words(self):
        self.assertEqual(press_words(EXAMPLE, []), Pressed(Grammar(()), ()))
        self.assertEqual(press_words(EXAMPLE, ((), [])), Pressed(Grammar(()), (None, None)))
        self.assertEqual(press_words(Grammar(()), [()]), Pressed(Grammar(()), (None,)))
        self.assertEqual(press_words(EXAMPLE, [(), (4,)]), Pressed(Grammar([("text", "a")]), (None, 0)))

    def test_one_letter_many_times(self):
        grammar = Grammar(doubled("a", 190) + [("row", 190, 3 ** 10), ("row", 7, 5)])
        pressed = self.check(grammar, [(191,), (0,), (192,), (0, 0, 0, 192), (1, 0, 192)])
        self.assertEqual(pressed.table.lengths[pressed.ends[0]], 2 ** 190 * 3 ** 10)
        self.assertEqual(pressed.ends[3], pressed.ends[4])
        self.assertEqual({rule[0] for rule in pressed.table.rules}, {"text", "row"})

    def test_what_is_returned_may_be_passed_on(self):
        grammar = Grammar(fibonacci(280))
        pressed = press_words(grammar, [(281,), (280, 279)])
        self.assertEqual(pressed.ends[0], pressed.ends[1])
        joined = joined_grammars(grammar, pressed.table)
        self.assertTrue(same_text(joined, (281,), (len(grammar.rules) + pressed.ends[0],)))
        self.assertFalse(holds_list(pressed.table.rules))


class HugeTextsTest(unittest.TestCase):
    def setUp(self):
        self.begin = time.monotonic()

    def tearDown(self):
        self.assertLess(time.monotonic() - self.begin, SOON)

    def assert_unlike(self, grammar, one, other, at):
        self.assertEqual(first_unlike(grammar, one, other), at)
        self.assertEqual(first_unlike(grammar, other, one), at)
        self.assertEqual(same_text(grammar, one, other), at is None)

    def with_changed_sign(self, grammar, word, at, letter):
        """A grammar, and a word with the text of the given one but for the sign at one place."""
        length = grammar.word_length(word)
        grammar, head = cut_word(grammar, word, 0, at)
        grammar, tail = cut_word(grammar, word, at + 1, length)
        grammar = Grammar(grammar.rules + (("text", letter),))
        return grammar, head + (len(grammar.rules) - 1,) + tail

    def test_one_sign_changed(self):
        for rules, word in ((doubled("ab", 198), (198,)), (fibonacci(284), (285,)), (thue_morse(198), (396,)),
                            ([("text", "abcab"), ("row", 0, BIG // 5)], (1,)),
                            ([("text", "aab")] + [("row", at, 10) for at in range(59)], (59,))):
            grammar = Grammar(rules)
            length = grammar.word_length(word)
            self.assertGreater(length, 10 ** 58)
            for at in (0, length // 3, length - 1):
                letter = "c" if grammar.letter_at(word, at) == "a" else "a"
                changed, other = self.with_changed_sign(grammar, word, at, letter)
                self.assert_unlike(changed, word, other, at)

    def test_equal_texts_of_unlike_rules(self):
        # Rule k + 1 is rules k and k - 1; the text goes on likewise when it is cut anywhere.
        grammar = Grammar(fibonacci(284))
        self.assert_unlike(grammar, (285,), (284, 283), None)
        self.assert_unlike(grammar, (285,), (283, 282, 283), None)
        length = grammar.word_length((285,))
        cut, head = cut_word(grammar, (285,), 0, length // 7)
        cut, tail = cut_word(cut, (285,), length // 7, length)
        self.assert_unlike(cut, (285,), head + tail, None)
        self.assert_unlike(cut, (285,), head, length // 7)
        rules = [("text", "ab"), ("row", 0, 6 ** 40), ("row", 0, 2 ** 40), ("row", 2, 3 ** 40), ("text", "ba"),
                 ("row", 4, 6 ** 40 - 1), ("text", "a"), ("text", "b")]
        self.assert_unlike(Grammar(rules), (1,), (3,), None)
        self.assert_unlike(Grammar(rules), (1,), (6, 5, 7), None)
        self.assert_unlike(Grammar(rules), (1,), (6, 5), 2 * 6 ** 40 - 1)

    def test_unlike_rows_of_one_text(self):
        rules = fibonacci(140)
        last = len(rules) - 1
        rules.extend([("row", last, 10 ** 29), ("row", last, 10 ** 29 + 1), ("row", last - 1, 10 ** 29)])
        grammar = Grammar(rules)
        self.assert_unlike(grammar, (last + 1,), (last + 2,), grammar.word_length((last + 1,)))
        self.assert_unlike(grammar, (last + 1, last), (last + 2,), None)
        self.assert_unlike(grammar, (last,) + (last + 1,), (last + 2,), None)

    def test_many_rows_of_long_texts(self):
        rules = fibonacci(140)
        rules.extend([("row", 141 - at % 5, 10 ** 26 + at) for at in range(200)])
        words = [tuple(range(142, 342)), tuple(range(142, 342)), tuple(range(341, 141, -1))]
        ends = press_words(Grammar(rules), words).ends
        self.assertEqual(ends[0], ends[1])
        self.assertNotEqual(ends[0], ends[2])

    def test_deep_grammars(self):
        draw = random.Random(7)
        rules = [("text", "ab"), ("text", "b"), ("text", "ca")]
        while len(rules) < 400:
            at = len(rules)
            rules.append(("pair", at - 1, draw.randrange(3)) if draw.random() < 0.5 else
                         ("pair", draw.randrange(3), at - 1))
        grammar = Grammar(rules)
        text = plain_texts(rules)[399]
        pressed = press_words(grammar, [(399,), (398,)])
        self.assertEqual(pressed.table.plain_text((pressed.ends[0],), 10 ** 4), text)
        self.assert_unlike(grammar, (399,), (398,), plainly_unlike(text, plain_texts(rules)[398]))
        chain = Grammar([("text", "ab")] + [("pair", at, 0) for at in range(399)])
        self.assert_unlike(chain, (399,), (199, 199), None)

    def test_long_words(self):
        draw = random.Random(8)
        rules = [("text", "".join(draw.choice("ab") for _ in range(400))) for _ in range(300)]
        grammar = Grammar(rules)
        word = tuple(draw.randrange(300) for _ in range(400))
        other = word[:-1] + ((word[-1] + 1) % 300,)
        texts = ["".join(rules[symbol][1] for symbol in each) for each in (word, other)]
        self.assert_unlike(grammar, word, other, plainly_unlike(*texts))


if __name__ == "__main__":
    unittest.main()
