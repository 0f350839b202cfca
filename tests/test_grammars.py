"""Grammars [11.1 to 11.8]."""

import random
import unittest

from pressedwords.errors import BadGrammar, EmptyWord, NoCut, NoSign, NoSymbol, TooLong
from pressedwords.grammars import Grammar, cut_word, joined_grammars, trimmed_grammar, word_symbol
from pressedwords.pressing import first_unlike, press_words, same_text
from tests.helpers import Alien, as_lists, caught, holds_list

EXAMPLE = Grammar((("text", "ab"), ("row", 0, 3), ("text", "ba"), ("row", 2, 2), ("text", "a"), ("text", "b")))
BIG = 10 ** 60


def plain_texts(rules):
    """The texts of all rules, written out."""
    texts = []
    for rule in rules:
        if rule[0] == "text":
            texts.append(rule[1])
        elif rule[0] == "pair":
            texts.append(texts[rule[1]] + texts[rule[2]])
        else:
            texts.append(texts[rule[1]] * rule[2])
    return texts


def random_rules(draw, many, longest=400):
    rules = []
    letters = draw.choice(("a", "ab", "ab", "abc"))
    while len(rules) < many:
        kind = draw.choice(("text", "pair", "pair", "row")) if rules else "text"
        if kind == "text":
            rule = (kind, "".join(draw.choice(letters) for _ in range(draw.choice((1, 1, 2, 5)))))
        elif kind == "pair":
            rule = (kind, draw.randrange(len(rules)), draw.randrange(len(rules)))
        else:
            rule = (kind, draw.randrange(len(rules)), draw.choice((1, 2, 2, 3, 5)))
        if len(plain_texts(rules + [rule])[-1]) <= longest:
            rules.append(rule)
    return rules


def random_word(draw, grammar, longest=4):
    return tuple(draw.randrange(len(grammar.rules)) for _ in range(draw.randrange(longest + 1)))


def doubled(first, many):
    """Rules that double a text so many times."""
    return [("text", first)] + [("pair", at, at) for at in range(many)]


class RulesTest(unittest.TestCase):
    def test_tuples(self):
        rules = [("text", "ab"), ["text", "c"], ["pair", 0, 1], ("row", 2, 10 ** 62), ("pair", 3, 3), ("row", 0, 1)]
        grammar = Grammar(rules)
        self.assertEqual(grammar.rules, tuple(map(tuple, rules)))
        self.assertFalse(holds_list(grammar.rules))
        rules[1][1] = "d"
        self.assertEqual(grammar.rules[1], ("text", "c"))
        self.assertEqual(Grammar(()).rules, ())
        self.assertEqual(Grammar([]).rules, ())

    def test_no_sequence(self):
        for rules in (None, "ab", 3, {}, True):
            self.assertEqual(caught(BadGrammar, Grammar, rules), (None,))

    def test_bad_rules(self):
        begin = [("text", "a"), ("text", "b")]
        for rule in (None, 3, "ab", (), [], ("text",), ("text", ""), ("text", "d"), ("text", "aB"), ("text", "a b"),
                     ("text", 3), ("text", None), ("text", ("a",)), ("text", "a", "b"), ("text", "a" * 401),
                     ("text", b"a"), ("texts", "a"), (None, "a"), (("text",), "a"), ({}, 0, 1),
                     ("pair",), ("pair", 0), ("pair", 0, 1, 1), ("pair", 0, 2), ("pair", 2, 0), ("pair", -1, 0),
                     ("pair", 0, -1), ("pair", True, 0), ("pair", 0, False), ("pair", "0", 0), ("pair", 0, None),
                     ("row",), ("row", 0), ("row", 0, 0), ("row", 0, -1), ("row", 0, 10 ** 62 + 1), ("row", 0, True),
                     ("row", False, 2), ("row", 2, 2), ("row", -1, 2), ("row", 0, 2, 2), ("row", 0, "2"),
                     ("row", 0, (2,)), ("row", None, 2), ["pair", 1, 2]):
            self.assertEqual(caught(BadGrammar, Grammar, begin + [rule, ("pair", 0, 1)]), (2,), rule)
            self.assertEqual(caught(BadGrammar, Grammar, tuple(begin + [rule, rule])), (2,), rule)
        self.assertEqual(caught(BadGrammar, Grammar, [("pair", 0, 0)]), (0,))
        self.assertEqual(caught(BadGrammar, Grammar, [("text", "a"), ("row", 1, 2)]), (1,))

    def test_bounds(self):
        self.assertEqual(Grammar([("text", "abc" * 133 + "a")]).word_length((0,)), 400)
        self.assertEqual(Grammar([("text", "a"), ("row", 0, 10 ** 62)]).word_length((1,)), 10 ** 62)

    def test_equality(self):
        rules = (("text", "ab"), ("row", 0, 3))
        self.assertTrue(Grammar(rules) == Grammar(as_lists(rules)))
        self.assertFalse(Grammar(rules) != Grammar(as_lists(rules)))
        self.assertFalse(Grammar(rules) == Grammar(rules[:1]))
        self.assertTrue(Grammar(rules) != Grammar((("text", "ab"), ("row", 0, 4))))
        for alien in (rules, None, Alien(**vars(Grammar(rules)))):
            self.assertFalse(Grammar(rules) == alien)


class NoSymbolTest(unittest.TestCase):
    def test_in_every_function_that_takes_a_word(self):
        grammar = EXAMPLE
        for call in (grammar.word_length, grammar.letters_in, lambda word: grammar.letter_at(word, -1),
                     lambda word: grammar.plain_text(word, -1), lambda word: word_symbol(grammar, word),
                     lambda word: cut_word(grammar, word, -1, None), lambda word: trimmed_grammar(grammar, [word]),
                     lambda word: trimmed_grammar(grammar, [(0,), word]), lambda word: press_words(grammar, [(), word]),
                     lambda word: same_text(grammar, word, ()), lambda word: same_text(grammar, (1, 1), word),
                     lambda word: first_unlike(grammar, word, (99,)), lambda word: first_unlike(grammar, (1,), word)):
            for word in (None, "ab", 0, {}, True):
                self.assertEqual(caught(NoSymbol, call, word), (word,))
            for symbol in (6, -1, True, False, None, "0", (0,), 10 ** 20):
                for word in ((symbol,), [0, symbol, 99], (0, 1, symbol, symbol)):
                    self.assertEqual(caught(NoSymbol, call, word), (symbol,))
        self.assertEqual(caught(NoSymbol, Grammar(()).word_length, (0,)), (0,))


class TextTest(unittest.TestCase):
    def test_small_texts(self):
        draw = random.Random(1)
        for _ in range(80):
            grammar = Grammar(random_rules(draw, draw.randrange(1, 12)))
            texts = plain_texts(grammar.rules)
            word = random_word(draw, grammar)
            text = "".join(texts[symbol] for symbol in word)
            for given in (word, list(word)):
                self.assertEqual(grammar.word_length(given), len(text))
                self.assertEqual(grammar.plain_text(given, len(text)), text)
                self.assertEqual(grammar.letters_in(given),
                                 tuple((letter, text.count(letter)) for letter in "abc" if letter in text))
            self.assertEqual("".join(grammar.letter_at(word, at) for at in range(len(text))), text)

    def test_the_empty_word(self):
        self.assertEqual(EXAMPLE.word_length(()), 0)
        self.assertEqual(EXAMPLE.letters_in([]), ())
        self.assertEqual(EXAMPLE.plain_text((), 0), "")
        self.assertEqual(caught(NoSign, EXAMPLE.letter_at, (), 0), (0,))

    def test_no_sign(self):
        for at in (6, -1, True, False, None, "0", 10 ** 70):
            self.assertEqual(caught(NoSign, EXAMPLE.letter_at, (1,), at), (at,))

    def test_too_long(self):
        self.assertEqual(EXAMPLE.plain_text((1,), 6), "ababab")
        self.assertEqual(caught(TooLong, EXAMPLE.plain_text, (1,), 5), (6,))
        self.assertEqual(caught(TooLong, EXAMPLE.plain_text, (4,), 0), (1,))
        grammar = Grammar([("text", "ab"), ("row", 0, BIG)])
        self.assertEqual(caught(TooLong, grammar.plain_text, (1, 0), 10 ** 9), (2 * BIG + 2,))

    def test_rows_of_huge_texts(self):
        grammar = Grammar([("text", "aab"), ("row", 0, BIG // 3), ("text", "c"), ("pair", 1, 2), ("row", 1, 2)])
        length = 3 * (BIG // 3)
        self.assertEqual(grammar.word_length((3, 4)), 3 * length + 1)
        self.assertEqual(grammar.letters_in((3,)), (("a", 2 * (BIG // 3)), ("b", BIG // 3), ("c", 1)))
        self.assertEqual(grammar.letter_at((3,), length), "c")
        self.assertEqual(grammar.letter_at((3,), length - 1), "b")
        self.assertEqual(grammar.letter_at((3, 1), length + 1 + 10 ** 30), "aab"[10 ** 30 % 3])

    def test_deep_grammars(self):
        rules = [("text", "ab")] + [("pair", at, 0) if at % 2 else ("pair", 0, at) for at in range(399)]
        grammar = Grammar(rules)
        self.assertEqual(grammar.word_length((399,)), 800)
        self.assertEqual(grammar.plain_text((399,), 800), "ab" * 400)
        self.assertEqual(grammar.letters_in([399] * 400), (("a", 160000), ("b", 160000)))
        self.assertEqual([grammar.letter_at((399,), at) for at in (0, 1, 400, 799)], ["a", "b", "a", "b"])
        grammar = Grammar(doubled("ab", 198))
        self.assertEqual(grammar.word_length((198,)), 2 ** 199)
        self.assertEqual(grammar.letter_at((198,), 2 ** 199 - 1), "b")
        self.assertEqual(grammar.plain_text((10,), 2048), "ab" * 1024)

    def test_a_long_plain_text(self):
        grammar = Grammar([("text", "a"), ("row", 0, 10 ** 6), ("text", "bc"), ("pair", 2, 0), ("row", 3, 1000)])
        self.assertEqual(grammar.plain_text((1, 4), 10 ** 7), "a" * 10 ** 6 + "bca" * 1000)


class WordSymbolTest(unittest.TestCase):
    def test_no_symbols(self):
        for word in ((), []):
            self.assertEqual(caught(EmptyWord, word_symbol, EXAMPLE, word), ())

    def test_one_symbol(self):
        grammar, symbol = word_symbol(EXAMPLE, (3,))
        self.assertEqual((grammar, symbol), (EXAMPLE, 3))

    def test_more_symbols(self):
        grammar, symbol = word_symbol(EXAMPLE, [4, 3, 5])
        self.assertEqual(grammar.rules, EXAMPLE.rules + (("pair", 4, 3), ("pair", 6, 5)))
        self.assertEqual(symbol, 7)
        self.assertEqual(grammar.plain_text((symbol,), 9), "ababab")
        told = word_symbol(EXAMPLE, (1, 1))
        self.assertIs(type(told), tuple)
        self.assertEqual((told[0].rules[6:], told[1]), ((("pair", 1, 1),), 6))

    def test_a_word_of_400_symbols(self):
        grammar, symbol = word_symbol(EXAMPLE, (4, 5) * 200)
        self.assertEqual((len(grammar.rules), symbol), (405, 404))
        self.assertEqual(grammar.plain_text((symbol,), 400), "ab" * 200)


class JoinedTest(unittest.TestCase):
    def test_the_other_s_symbols_are_raised(self):
        other = Grammar([("text", "c"), ("pair", 0, 0), ("row", 1, 5)])
        joined = joined_grammars(EXAMPLE, other)
        self.assertEqual(joined.rules, EXAMPLE.rules + (("text", "c"), ("pair", 6, 6), ("row", 7, 5)))
        self.assertEqual(joined_grammars(EXAMPLE, Grammar(())), EXAMPLE)
        self.assertEqual(joined_grammars(Grammar(()), EXAMPLE), EXAMPLE)

    def test_texts_stay(self):
        draw = random.Random(2)
        for _ in range(20):
            one, other = [Grammar(random_rules(draw, draw.randrange(1, 8))) for _ in range(2)]
            self.assertEqual(plain_texts(joined_grammars(one, other).rules),
                             plain_texts(one.rules) + plain_texts(other.rules))


class CutTest(unittest.TestCase):
    def check(self, grammar, word, begin, end, text):
        cut, part = cut_word(grammar, word, begin, end)
        self.assertEqual(cut.rules[:len(grammar.rules)], grammar.rules)
        self.assertIs(type(part), tuple)
        self.assertEqual(cut.plain_text(part, 10 ** 6), text)
        self.assertEqual(part == (), begin == end)

    def test_all_places_of_small_texts(self):
        draw = random.Random(3)
        for _ in range(25):
            grammar = Grammar(random_rules(draw, draw.randrange(1, 9), 30))
            word = random_word(draw, grammar, 3)
            text = "".join(plain_texts(grammar.rules)[symbol] for symbol in word)
            if len(text) < 40:
                for begin in range(len(text) + 1):
                    for end in range(begin, len(text) + 1):
                        self.check(grammar, word, begin, end, text[begin:end])

    def test_no_cut(self):
        for begin, end in ((-1, 2), (3, 2), (0, 7), (7, 7), (True, 2), (0, True), (None, 2), (0, "2"), ("0", 2),
                           (0, None)):
            self.assertEqual(caught(NoCut, cut_word, EXAMPLE, (1,), begin, end), (begin, end))
        self.assertEqual(caught(NoCut, cut_word, EXAMPLE, (), 0, 1), (0, 1))
        self.check(EXAMPLE, (), 0, 0, "")
        self.check(EXAMPLE, [1], 6, 6, "")

    def test_huge_texts(self):
        grammar = Grammar(doubled("aab", 197) + [("row", 5, 10 ** 55), ("text", "c"), ("pair", 198, 199)])
        length = grammar.word_length((200,))
        for word, begin, end in (((200,), length - 9, length), ((200,), 0, 7), ((197,), 2 ** 196, 2 ** 196 + 40),
                                 ((200, 197), length - 3, length + 6),
                                 ((198, 199), 96 * 10 ** 40 + 1, 96 * 10 ** 40 + 8)):
            cut, part = cut_word(grammar, word, begin, end)
            self.assertEqual(cut.plain_text(part, 99), "".join(grammar.letter_at(word, at) for at in range(begin, end)))
        for begin, end in ((0, length), (1, length - 1), (10 ** 50, 10 ** 56)):
            cut, part = cut_word(grammar, (200,), begin, end)
            self.assertEqual(cut.word_length(part), end - begin)
            self.assertEqual(cut.letter_at(part, 0), grammar.letter_at((200,), begin))
            self.assertLess(len(cut.rules), 1300)
            whole, rest = cut_word(cut, (200,), 0, begin)
            other, tail = cut_word(whole, (200,), end, length)
            self.assertTrue(same_text(other, rest + part + tail, (200,)))

    def test_deep_grammars(self):
        rules = [("text", "ab")] + [("pair", at, 0) if at % 2 else ("pair", 0, at) for at in range(399)]
        self.check(Grammar(rules), (399,), 3, 798, ("ab" * 400)[3:798])


class TrimmedTest(unittest.TestCase):
    def test_the_rules_that_words_need(self):
        grammar, words = trimmed_grammar(EXAMPLE, [(3,), [5, 3]])
        self.assertEqual(grammar.rules, (("text", "ba"), ("row", 0, 2), ("text", "b")))
        self.assertEqual(words, ((1,), (2, 1)))
        self.assertFalse(holds_list(words))

    def test_nothing_needed(self):
        self.assertEqual(trimmed_grammar(EXAMPLE, []), (Grammar(()), ()))
        self.assertEqual(trimmed_grammar(EXAMPLE, ((), ())), (Grammar(()), ((), ())))

    def test_everything_needed(self):
        self.assertEqual(trimmed_grammar(EXAMPLE, ((1, 3, 4, 5),)), (EXAMPLE, ((1, 3, 4, 5),)))

    def test_texts_stay_and_no_rule_is_left_over(self):
        draw = random.Random(4)
        for _ in range(40):
            grammar = Grammar(random_rules(draw, draw.randrange(1, 12)))
            words = [random_word(draw, grammar) for _ in range(3)]
            trimmed, kept = trimmed_grammar(grammar, words)
            for old, new in zip(words, kept):
                self.assertEqual(trimmed.plain_text(new, 10 ** 6), grammar.plain_text(old, 10 ** 6))
            self.assertEqual(trimmed_grammar(trimmed, kept), (trimmed, kept))
            needed = {symbol for word in words for symbol in word}
            for symbol in range(len(grammar.rules) - 1, -1, -1):
                if symbol in needed:
                    rule = grammar.rules[symbol]
                    needed |= set(rule[1:3] if rule[0] == "pair" else rule[1:2] if rule[0] == "row" else ())
            texts = plain_texts(grammar.rules)
            self.assertEqual(plain_texts(trimmed.rules), [texts[symbol] for symbol in sorted(needed)])


if __name__ == "__main__":
    unittest.main()
