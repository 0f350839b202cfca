"""Fillings [12.1 to 12.7]."""

import random
import unittest

from pressedwords.errors import BadFilling, NoName, TooLong
from pressedwords.fillings import (Filling, chosen_filling, filled_word, filling_of, judge_filling, same_filling,
                                   saying_true)
from pressedwords.grammars import Grammar, trimmed_grammar
from pressedwords.sayings import names_of, saying_holds, side_text
from pressedwords.sayingtext import read_saying
from tests.helpers import Alien, as_lists, caught, holds_list
from tests.test_grammars import EXAMPLE, plain_texts, random_rules, random_word

BIG = 10 ** 60
GIANT = Grammar((("text", "ab"), ("row", 0, BIG // 4), ("text", "a"), ("text", "ba"), ("row", 3, BIG // 4), ("text", "b")))


def say(text, letters=2):
    return read_saying(text, letters)


def filled(**texts):
    return filling_of([("?" + name, texts[name]) for name in sorted(texts)])


class FillingTest(unittest.TestCase):
    def test_names(self):
        right = ["?0", "?01234567", "?1", "?99999999", "?a", "?abcdefgh", "?z"]
        self.assertEqual(Filling(EXAMPLE, [(name, (1,)) for name in right]).names, tuple(right))
        for wrong in ("", "?", "a", "?A", "?a1", "?1a", "?abcdefghi", "?123456789", "? ", "?_", "x?", "??", "x1", "12", "xab", 1, None,
                      ("?x",), b"?x", "?\u0661", "?\u00e4"):
            self.assertEqual(caught(BadFilling, Filling, EXAMPLE, [(wrong, (1,))]), (0,))
            self.assertEqual(caught(BadFilling, filling_of, [("?0", "a"), (wrong, "a")]), (1,))

    def test_tuples_of_lists(self):
        words = [["?x", [0, 1]], ("?y", [])]
        filling = Filling(EXAMPLE, words)
        self.assertEqual(filling.words, (("?x", (0, 1)), ("?y", ())))
        self.assertFalse(holds_list(filling.words))
        words[0][1].append(2)
        words.append(("?z", ()))
        self.assertEqual(filling.words, (("?x", (0, 1)), ("?y", ())))
        self.assertEqual(filling.names, ("?x", "?y"))
        self.assertEqual(filling.grammar, EXAMPLE)
        self.assertEqual(Filling(EXAMPLE, ()).words, ())
        self.assertEqual(Filling(Grammar(()), [("?x", ())]).words, (("?x", ()),))

    def test_no_sequence(self):
        for wrong in (None, 1, "ab", {"?x": (0,)}, {("?x", ())}, iter([])):
            self.assertEqual(caught(BadFilling, Filling, EXAMPLE, wrong), (None,))
            self.assertEqual(caught(BadFilling, filling_of, wrong), (None,))

    def test_the_first_wrong_entry(self):
        right = ("?b", (0,))
        for wrong in (None, (), ("?c",), ("?c", (0,), 0), "?c", ("?c", 0), ("?c", "0"), ("?c", (6,)), ("?c", (-1,)),
                      ("?c", (True,)), ("?c", (0, None)), ("?c", {0}), ("?b", (0,)), ("?a", (0,)), ("?1", (0,))):
            self.assertEqual(caught(BadFilling, Filling, EXAMPLE, [right, wrong, None]), (1,), wrong)
        self.assertEqual(caught(BadFilling, Filling, EXAMPLE, [("?c", (6,)), right]), (0,))

    def test_filling_of_wrong_entries(self):
        for wrong in (None, ("?c",), ("?c", "a", "b"), ("?c", None), ("?c", 1), ("?c", "d"), ("?c", "aB"), ("?c", ("a",)),
                      ("?c", "a" * 401), ("?c", b"a"), ("?b", "a"), ("?a", "a"), ("?2", "a")):
            self.assertEqual(caught(BadFilling, filling_of, [("?b", "a"), wrong, None]), (1,), wrong)

    def test_filling_of(self):
        texts = (("?1", ""), ("?2", "abc"), ("?x", "a" * 400), ("?y", "abc"))
        for given in (texts, as_lists(texts)):
            filling = filling_of(given)
            self.assertIs(type(filling), Filling)
            self.assertEqual(filling.texts(400), texts)
            self.assertEqual(filling.names, ("?1", "?2", "?x", "?y"))
        self.assertEqual(filling_of(()).texts(0), ())

    def test_equal(self):
        filling = Filling(EXAMPLE, [("?x", (1,))])
        self.assertTrue(filling == Filling(Grammar(EXAMPLE.rules), (["?x", [1]],)))
        for other in (Filling(EXAMPLE, [("?x", (0, 0, 0))]), Filling(EXAMPLE, [("?y", (1,))]), Filling(EXAMPLE, []),
                      Filling(Grammar(EXAMPLE.rules[:3]), [("?x", (1,))]), None, 1,
                      Alien(grammar=EXAMPLE, words=(("?x", (1,)),))):
            self.assertFalse(filling == other)
            self.assertTrue(filling != other)

    def test_word_of(self):
        filling = Filling(EXAMPLE, [("?x", (1,)), ("?y", [])])
        self.assertEqual((filling.word_of("?x"), filling.word_of("?y")), ((1,), ()))
        for wrong in ("?z", "x", "", "?1"):
            self.assertEqual(caught(NoName, filling.word_of, wrong), (wrong,))

    def test_texts_and_room(self):
        filling = Filling(EXAMPLE, [("?a", ()), ("?x", (1, 0)), ("?y", (1, 1)), ("?z", (4,))])
        told = (("?a", ""), ("?x", "abababab"), ("?y", "abababababab"), ("?z", "a"))
        self.assertEqual(filling.texts(12), told)
        self.assertEqual(filling.texts(1000), told)
        self.assertEqual(caught(TooLong, filling.texts, 11), (12,))
        self.assertEqual(caught(TooLong, filling.texts, 7), (8,))
        self.assertEqual(caught(TooLong, filling.texts, 0), (8,))
        self.assertEqual(caught(TooLong, Filling(GIANT, [("?x", (0,)), ("?y", (1, 2))]).texts, 400), (BIG // 2 + 1,))


class SameAndChosenTest(unittest.TestCase):
    def test_same_filling(self):
        one = Filling(EXAMPLE, [("?x", (1,)), ("?y", (0,))])
        self.assertIs(same_filling(one, Filling(EXAMPLE, [("?x", (4, 3, 5)), ("?y", (4, 5))])), True)
        self.assertIs(same_filling(one, filled(x="ababab", y="ab")), True)
        self.assertIs(same_filling(filled(x="ababab", y="ab"), one), True)
        for other in (filled(x="ababab", y="ba"), filled(x="ababa", y="ab"), filled(x="ababab", z="ab"), filled(x="ababab"),
                      filled(x="ab", y="ababab"), filled(x="ababab", y="ab", z=""), filling_of(())):
            self.assertIs(same_filling(one, other), False)
            self.assertIs(same_filling(other, one), False)
        self.assertIs(same_filling(filling_of(()), Filling(EXAMPLE, ())), True)
        self.assertIs(same_filling(filled(x=""), filled(x="")), True)

    def test_same_filling_of_giants(self):
        one = Filling(GIANT, [("?x", (1, 2)), ("?y", (4, 5))])
        self.assertIs(same_filling(one, Filling(GIANT, [("?x", (2, 4)), ("?y", (5, 1))])), True)
        self.assertIs(same_filling(one, Filling(GIANT, [("?x", (2, 4)), ("?y", (1, 5))])), False)

    def test_chosen_filling(self):
        filling = Filling(EXAMPLE, [("?1", (5,)), ("?x", (1, 4)), ("?y", (3,)), ("?z", ())])
        chosen = chosen_filling(filling, ["?z", "?x", "?z", "?1"])
        self.assertEqual(chosen.texts(9), (("?1", "b"), ("?x", "abababa"), ("?z", "")))
        grammar, words = trimmed_grammar(EXAMPLE, [(5,), (1, 4), ()])
        self.assertEqual(chosen, Filling(grammar, list(zip(("?1", "?x", "?z"), words))))
        self.assertEqual(chosen_filling(filling, ()), filling_of(()))
        self.assertEqual(chosen_filling(filling, ("?z",)), Filling(Grammar(()), [("?z", ())]))
        self.assertEqual(caught(NoName, chosen_filling, filling, ("?x", "?c", "?b", "?x")), ("?c",))


class SidesTest(unittest.TestCase):
    def test_filled_word(self):
        filling = Filling(EXAMPLE, [("?x", (1, 4)), ("?y", ())])
        texts = {"?x": "abababa", "?y": ""}
        for side in ((), ("a",), ("?x",), ("?y",), ("c", "?x", "b", "c", "?y", "?x", "?x"), ["a", "a", "?x"]):
            grammar, word = filled_word(filling, side)
            self.assertEqual(grammar.rules[:6], EXAMPLE.rules)
            self.assertEqual(grammar.plain_text(word, 100), side_text(side, texts))
            self.assertIs(type(word), tuple)
        self.assertEqual(filling, Filling(EXAMPLE, [("?x", (1, 4)), ("?y", ())]))

    def test_the_first_missing_name_by_place(self):
        self.assertEqual(caught(NoName, filled_word, filled(x="a"), ("a", "?x", "?z", "?y", "?z")), ("?z",))

    def test_a_side_of_giants(self):
        filling = Filling(GIANT, [("?x", (1,)), ("?y", (4,))])
        grammar, word = filled_word(filling, ("a", "?x", "b", "?y", "?y"))
        self.assertEqual(grammar.word_length(word), 2 + 3 * (BIG // 2))
        self.assertEqual([grammar.letter_at(word, at) for at in (0, 1, 2, BIG // 2 + 1, BIG // 2 + 2)], list("aabbb"))


def random_expression(draw, depth, alphabet="abc"):
    kind = draw.choice(("letter", "any", "empty", "behind", "behind", "either", "again") if depth else ("letter", "any"))
    if kind == "letter":
        return (kind, draw.choice(alphabet))
    if kind in ("any", "empty"):
        return (kind,)
    if kind == "again":
        return (kind, random_expression(draw, depth - 1, alphabet))
    return (kind, random_expression(draw, depth - 1, alphabet), random_expression(draw, depth - 1, alphabet))


def random_side(draw, names, longest, alphabet="abc"):
    return tuple(draw.choice(alphabet) if draw.random() < 0.4 else draw.choice(names)
                 for _ in range(draw.randrange(longest + 1)))


def random_saying(draw, names, depth, alphabet="abc"):
    kind = draw.choice(("alike", "in", "not", "and", "or") if depth else ("alike", "in"))
    if kind == "alike":
        return (kind, random_side(draw, names, 3, alphabet), random_side(draw, names, 3, alphabet))
    if kind == "in":
        return (kind, random_side(draw, names, 3, alphabet), random_expression(draw, 3, alphabet))
    if kind == "not":
        return (kind, random_saying(draw, names, depth - 1, alphabet))
    return (kind,) + tuple(random_saying(draw, names, depth - 1, alphabet) for _ in range(draw.randrange(1, 4)))


class TruthTest(unittest.TestCase):
    def test_each_kind(self):
        filling = filled(x="ab", y="abab", z="")
        for text, truth in (("?x ?x = ?y", True), ("?x a = ?y", False), ("?z = empty", True), ("a ?z = a", True),
                            ("?y in (ab)*", True), ("?x ?y a in (ab)*", False), ("?z in _", True), ("empty in .", False),
                            ("not [ ?x = ?y ]", True), ("not [ ?x in .. ]", False), ("all [ ?x = a b ]", True),
                            ("all [ ?x = a b ; ?y = b ]", False), ("some [ ?x = a ; ?y = b ]", False),
                            ("some [ ?x = a ; ?y = a b a b ]", True)):
            self.assertIs(saying_true(filling, say(text)), truth, text)

    def test_the_plain_meaning(self):
        draw = random.Random(12)
        for turn in range(300):
            grammar = Grammar(random_rules(draw, 8, 60))
            texts = plain_texts(grammar.rules)
            words = [(name, random_word(draw, grammar, 2)) for name in ("?1", "?x", "?y")]
            filling = Filling(grammar, words)
            plain = {name: "".join(texts[symbol] for symbol in word) for name, word in words}
            self.assertEqual(dict(filling.texts(200)), plain)
            saying = random_saying(draw, ("?1", "?x", "?y"), 3)
            self.assertIs(saying_true(filling, saying), saying_holds(saying, plain), (saying, plain))

    def test_giants(self):
        filling = Filling(GIANT, [("?x", (1,)), ("?y", (4,)), ("?z", (1, 2))])
        for text, truth in (("?x a = a ?y", True), ("?x a = ?z", True), ("?x b = b ?y", False), ("?x ?x = ?y ?y", False),
                            ("?z b in (ab)*", True), ("?z in (ab)*", False), ("b ?x in .(..)*", True), ("?x in .(..)*", False),
                            ("a ?x in (aab|abab)*", False), ("?x ?y in (ab)*(ba)*", True), ("?y ?x in (ab)*(ba)*", False),
                            ("?x in (ababab)*", (BIG // 4) % 3 == 0), ("?x a b in (ababab)*", (BIG // 4 + 1) % 3 == 0),
                            ("?x a b a b in (ababab)*", (BIG // 4 + 2) % 3 == 0)):
            self.assertIs(saying_true(filling, say(text)), truth, text)

    def test_rows_of_each_length(self):
        for many in range(1, 70):
            filling = Filling(Grammar((("text", "ab"), ("row", 0, many))), [("?x", (1,))])
            for text in ("(ababab)*", "(abababab)*", "ab(ababababab)*"):
                saying = say("?x in " + text)
                self.assertIs(saying_true(filling, saying), saying_holds(saying, {"?x": "ab" * many}), (many, text))

    def test_deep_grammars(self):
        rules = [("text", "ab")] + [("pair", at, at) for at in range(195)] + [("row", 195, 3)]
        rules += [("pair", 196, at) for at in range(100)]
        filling = Filling(Grammar(rules), [("?x", (196,)), ("?y", (200,))])
        self.assertIs(saying_true(filling, say("?x in (ab)*")), True)
        self.assertIs(saying_true(filling, say("?y a in (ab)*")), False)

    def test_the_least_missing_name(self):
        saying = say("some [ ?x = ?x ; ?z = ?b ; not [ ?y a in a ] ]")
        self.assertEqual(caught(NoName, saying_true, filled(x="a"), saying), ("?b",))
        self.assertEqual(caught(NoName, saying_true, filled(x="a", b=""), saying), ("?y",))
        self.assertIs(saying_true(filled(x="a", b="", y="", z=""), saying), True)


class JudgeTest(unittest.TestCase):
    def test_right_fillings(self):
        sayings = (say("?x b = b ?x"), say("?x in b*"))
        for given in (sayings, list(sayings)):
            self.assertIsNone(judge_filling(given, 2, filled(x="bb")))
        self.assertIsNone(judge_filling(sayings, 2, filled(x="bb", y="ab", z="")))
        self.assertIsNone(judge_filling((), 1, filling_of(())))
        self.assertIsNone(judge_filling((), 3, filled(x="abc")))
        self.assertIsNone(judge_filling((say("a = a"),), 1, filled(x="a")))

    def test_each_fault_ahead_of_the_next(self):
        sayings = (say("?x b = b ?x"), say("?y in b*"), say("?x ?y = ?b"))
        self.assertEqual(judge_filling(sayings, 2, filled(x="c", a="c")), ("name", "?b"))
        self.assertEqual(judge_filling(sayings, 2, filled(x="c", b="c")), ("name", "?y"))
        self.assertEqual(judge_filling(sayings, 2, filled(x="b", y="c", b="bbc")), ("letter", "?b"))
        self.assertEqual(judge_filling(sayings, 2, filled(x="b", y="a", b="bb", a="abc")), ("letter", "?a"))
        self.assertEqual(judge_filling(sayings, 1, filled(x="a", y="a", b="aa", z="ab")), ("letter", "?z"))
        self.assertEqual(judge_filling(sayings, 2, filled(x="a", y="a", b="bb")), ("saying", 0))
        self.assertEqual(judge_filling(sayings, 2, filled(x="b", y="a", b="bb")), ("saying", 1))
        self.assertEqual(judge_filling(sayings, 2, filled(x="b", y="b", b="b")), ("saying", 2))
        self.assertEqual(judge_filling(sayings, 3, filled(x="b", y="b", b="bbc")), ("saying", 2))
        self.assertIsNone(judge_filling(sayings, 2, filled(x="b", y="b", b="bb")))

    def test_letters_that_no_word_needs(self):
        grammar = Grammar((("text", "c"), ("text", "a")))
        self.assertIsNone(judge_filling((), 1, Filling(grammar, [("?x", (1,))])))
        self.assertEqual(judge_filling((), 2, Filling(grammar, [("?x", (1,)), ("?y", (1, 0))])), ("letter", "?y"))

    def test_the_plain_meaning(self):
        draw = random.Random(127)
        for turn in range(150):
            texts = {name: "".join(draw.choice("ab") for _ in range(draw.randrange(5))) for name in ("?x", "?y", "?z")}
            sayings = [random_saying(draw, ("?x", "?y", "?z"), 1, "ab") for _ in range(3)]
            wrong = [at for at, saying in enumerate(sayings) if not saying_holds(saying, texts)]
            told = judge_filling(sayings, 2, filling_of(sorted(texts.items())))
            self.assertEqual(told, ("saying", wrong[0]) if wrong else None)
            for name in texts:
                some = filling_of([couple for couple in sorted(texts.items()) if couple[0] != name])
                needed = any(name in names_of(saying) for saying in sayings)
                if needed:
                    self.assertEqual(judge_filling(sayings, 2, some), ("name", name))
                else:
                    self.assertEqual(judge_filling(sayings, 2, some), told)


if __name__ == "__main__":
    unittest.main()
