"""The printed form of sayings [2.6 to 2.9]."""

import random
import unittest

from pressedwords.errors import BadLetters, BadText
from pressedwords.expressions import read_expression
from pressedwords.sayings import is_item
from pressedwords.sayingtext import read_saying, read_sayings, saying_text, sayings_text
from tests.helpers import caught, holds_list
from tests.test_expressions import marks, random_expression

ANY = ("any",)
LINES = (
    ("a = ?x", ("alike", ("a",), ("?x",))),
    ("empty = empty", ("alike", (), ())),
    ("?x b = empty", ("alike", ("?x", "b"), ())),
    ("empty in _", ("in", (), ("empty",))),
    ("?empty ?in in a|b*", ("in", ("?empty", "?in"), ("either", ("letter", "a"), ("again", ("letter", "b"))))),
    ("not [ a = ?x ]", ("not", ("alike", ("a",), ("?x",)))),
    ("all [ a = ?x ]", ("and", ("alike", ("a",), ("?x",)))),
    ("some [ ?x in . ]", ("or", ("in", ("?x",), ANY))),
    ("all [ a = ?x b ; empty in . ; not [ some [ b = b ; a = a ] ] ]",
     ("and", ("alike", ("a",), ("?x", "b")), ("in", (), ANY),
      ("not", ("or", ("alike", ("b",), ("b",)), ("alike", ("a",), ("a",)))))),
)
VOCABULARY = ["a", "b", "c", "d", "?x", "?X", "?toolongname", "empty", "=", "in", "not", "all", "some", "and", "[", "]",
              ";", "", ".", "a*", "a|", "(", "ab", "\t"]


def random_saying(chance, depth):
    word = chance.choice(["alike", "in", "not", "and", "or"][:5 if depth else 2])
    if word in ("alike", "in"):
        side = tuple(chance.choice(["a", "b", "?x", "?yy"]) for _ in range(chance.randint(0, 3)))
        if word == "alike":
            return (word, side, tuple(chance.choice(["a", "?x"]) for _ in range(chance.randint(0, 2))))
        expression = random_expression(chance, 2)
        return (word, side, expression)
    many = 1 if word == "not" else chance.randint(1, 3)
    return (word,) + tuple(random_saying(chance, depth - 1) for _ in range(many))


def deep_line(depth, inner):
    return "not [ " * (depth - 1) + inner + " ]" * (depth - 1)


class Grammar:
    """Which words may come next, told by the row of things that are still awaited, the next one last."""

    def __init__(self, letters):
        self.letters = letters

    def after(self, awaited, word):
        """What is awaited behind a word, or None if it does not fit."""
        wanted, rest = awaited[-1], awaited[:-1]
        if wanted.startswith("saying"):
            depth = int(wanted[6:])
            if word in ("not", "all", "some"):
                if depth == 20:
                    return None
                return rest + [("last" if word == "not" else "more") + str(depth + 1), "saying" + str(depth + 1), "["]
            return self.after(rest + ["middle", "side"], word)
        if wanted == "side":
            if word == "empty":
                return rest
            return rest + ["items"] if is_item(word, self.letters) else None
        if wanted == "items":
            return awaited if is_item(word, self.letters) else self.after(rest, word)
        if wanted == "middle":
            return {"=": rest + ["side"], "in": rest + ["expression"]}.get(word)
        if wanted == "expression":
            try:
                read_expression(word, self.letters)
            except ValueError:
                return None
            return rest
        if wanted == "end":
            return None
        if wanted.startswith("more") and word == ";":
            return awaited + ["saying" + wanted[4:]]
        if wanted.startswith(("more", "last")):
            return rest if word == "]" else None
        return rest if word == wanted else None

    def misfit(self, text):
        """The place of the first word that does not fit, the number of words, or None for a whole saying."""
        awaited = ["end", "saying1"]
        words = text.split(" ")
        for place, word in enumerate(words):
            awaited = self.after(awaited, word)
            if awaited is None:
                return place
        return None if awaited in (["end"], ["end", "items"]) else len(words)


class PrintTest(unittest.TestCase):
    def test_each_form(self):
        for line, saying in LINES:
            self.assertEqual(saying_text(saying), line)

    def test_sayings_stand_one_a_line(self):
        self.assertEqual(sayings_text(()), "")
        self.assertEqual(sayings_text([]), "")
        self.assertEqual(sayings_text([LINES[0][1]]), "a = ?x")
        self.assertEqual(sayings_text([saying for _, saying in LINES]), "\n".join(line for line, _ in LINES))


class ReadSayingTest(unittest.TestCase):
    def test_printed_lines_are_read_back(self):
        for line, saying in LINES:
            self.assertEqual(read_saying(line, 2), saying)
            self.assertFalse(holds_list(read_saying(line, 2)))
        chance = random.Random(1)
        for _ in range(300):
            saying = random_saying(chance, 3)
            self.assertEqual(read_saying(saying_text(saying), 2), saying)

    def assert_bad(self, place, text, letters=2):
        self.assertEqual(caught(BadText, read_saying, text, letters), (0, place), text)

    def test_words_that_do_not_fit(self):
        for place, text in (
                (0, ""), (0, " a = b"), (0, "="), (0, "c = a"), (0, "[ a = b ]"), (0, "A = a"), (0, "and [ a = a ]"),
                (0, "?x1 = a"), (0, "in a"), (1, "a b2 = a"), (1, "a not"), (1, "a ["), (1, "a empty = a"),
                (1, "empty a = a"), (1, "empty empty = a"), (1, "a ;"), (2, "a = ="), (2, "a = in"), (2, "a = not"),
                (2, "a = ]"), (2, "a in"), (2, "a in ("), (2, "a in in"), (2, "a in c"), (2, "a in ="), (2, "a in "),
                (3, "a in b b"), (3, "a in b ]"), (3, "a in b ;"), (3, "a in b = a"), (3, "a = empty a"),
                (3, "a = empty empty"), (3, "a = b empty"), (3, "a = b = a"), (3, "a = b in a"), (3, "a = b ]"),
                (3, "a = b ;"), (3, "a = b not"), (3, "a = b "), (2, "a =  b"), (1, "a  = b"), (1, "not a = b"),
                (1, "all not"), (1, "not not [ a = b ]"), (2, "not [ ]"), (2, "all [ ;"), (2, "some [ [ a = a ] ]"),
                (5, "not [ a = b ; a = a ]"), (6, "all [ a = b ; ]"), (6, "all [ a = b ; ; a = a ]"),
                (6, "all [ a = b ]  "), (6, "all [ a = b ] ]"), (6, "not [ a = b ] a"), (5, "all [ a = b [ a"),
                (4, "some [ a in a|"), (5, "some [ a in b a = a ]"), (1, "a =\ta"), (2, "a = a\n"),
                (0, "a\n= a"), (0, "not\n[ a = a ]")):
            self.assert_bad(place, text)

    def test_lines_that_end_too_early(self):
        for text in ("a", "a b", "empty", "a =", "a in", "not", "not [", "not [ a", "not [ a =", "not [ a = a",
                     "all [ a = b ;", "all [ a = b ; a", "some [ not [ a = b ]", "some [ a in a"):
            self.assert_bad(len(text.split(" ")), text)

    def test_letters_come_first(self):
        for letters in (0, 4, True, False, "2", None):
            for text in ("", "a = a", "not"):
                self.assertEqual(caught(BadLetters, read_saying, text, letters), ())
                self.assertEqual(caught(BadLetters, read_sayings, text, letters), ())

    def test_letters_outside_of_the_alphabet(self):
        self.assert_bad(0, "b = a", 1)
        self.assert_bad(2, "a in b", 1)
        self.assertEqual(read_saying("c = a", 3), ("alike", ("c",), ("a",)))

    def test_depth(self):
        self.assertEqual(saying_text(read_saying(deep_line(20, "a = b"), 2)), deep_line(20, "a = b"))
        for word in ("not", "all", "some"):
            self.assert_bad(38, deep_line(20, word + " [ a = b ]"))
            self.assertEqual(read_saying(deep_line(19, word + " [ a = b ]"), 2)[0], "not")
        self.assert_bad(38, deep_line(20, "="))
        behind = "some [ a = b ; " * 19
        self.assertEqual(saying_text(read_saying(behind + "a = b" + " ]" * 19, 2)), behind + "a = b" + " ]" * 19)
        self.assert_bad(6 * 19, behind + "not [ a = b ]" + " ]" * 19)

    def test_every_word_exchanged_for_every_other(self):
        grammar = Grammar(2)
        lines = [line for line, _ in LINES] + [deep_line(19, "all [ a = b ]"), deep_line(20, "a in a")]
        whole = 0
        for line in lines:
            words = line.split(" ")
            for place in range(len(words) + 1):
                for word in VOCABULARY:
                    for text in (words[:place] + [word] + words[place + 1:], words[:place] + [word] + words[place:],
                                 words[:place], words[:place] + words[place + 1:]):
                        text = " ".join(text)
                        misfit = grammar.misfit(text)
                        if misfit is None:
                            whole += 1
                            self.assertEqual(saying_text(read_saying(text, 2)), text)
                        else:
                            self.assert_bad(misfit, text)
        self.assertGreater(whole, 100)

    def test_expressions_have_their_own_rules(self):
        self.assertEqual(read_saying("a in " + "(" * 40 + "a" + ")" * 40, 2)[2], ("letter", "a"))
        self.assert_bad(2, "a in " + "(" * 41 + "a" + ")" * 41)
        self.assert_bad(2, "a in " + "a" * 21)
        self.assert_bad(2, "a in " + "a" * 401)
        self.assertEqual(marks(read_saying("a in " + "a" * 20, 2)[2]), 39)


class ReadSayingsTest(unittest.TestCase):
    def test_reads_back(self):
        self.assertEqual(read_sayings("", 2), ())
        sayings = tuple(saying for _, saying in LINES)
        self.assertEqual(read_sayings(sayings_text(sayings), 2), sayings)
        self.assertEqual(read_sayings("a = a", 1), (("alike", ("a",), ("a",)),))

    def test_the_first_refused_line_is_told(self):
        for line, place, text in ((0, 0, "\n"), (1, 0, "a = a\n"), (0, 2, "a =\nb ="), (1, 1, "a = a\nb b2\na"),
                                  (2, 3, "a = a\na in .\na = b ]"), (1, 0, "a = a\n\na = a"), (1, 0, "a = a\n a = a"),
                                  (0, 3, "a = a \na = a"), (0, 0, " ")):
            self.assertEqual(caught(BadText, read_sayings, text, 2), (line, place))
        self.assertEqual(caught(BadText, read_saying, "a = a\nb = b", 2), (0, 2))


if __name__ == "__main__":
    unittest.main()
