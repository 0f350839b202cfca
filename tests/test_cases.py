"""Cases of sayings [14.1 to 14.5]."""

import random
import unittest
from itertools import product

from pressedwords.cases import Case, cases_of, check_sayings, expressions_in, lot_for
from pressedwords.deeds import Deeds, deeds_of
from pressedwords.errors import BadExpression, BadLetters, BadSaying, TooMany, TooWide
from pressedwords.expressions import matches, read_expression
from pressedwords.sayings import names_of, saying_holds, side_text
from pressedwords.sayingtext import read_saying
from pressedwords.watchers import Watcher, watcher_of
from tests.helpers import as_lists, caught, check_result, holds_list, texts_up_to
from tests.test_fillings import random_saying

ALIKE = ("alike", ("?x",), ("a",))


def say(text, letters=2):
    return read_saying(text, letters)


def cases(*texts, letters=2):
    return [(case.rows, case.sets, case.full) for case in cases_of([say(text, letters) for text in texts], letters)]


def sides(text):
    """A row "U = V" of items without blanks between, names in brackets: "(x)a=b"."""
    found = []
    for side in text.split("="):
        items = side.replace("(", " ?").replace(")", " ").split()
        found.append(tuple(part for item in items for part in ([item] if item[0] == "?" else item)))
    return tuple(found)


class CheckTest(unittest.TestCase):
    def test_tuples_of_lists(self):
        sayings = [say("?x in a*"), say("not [ ?x = a ]")]
        for given in (sayings, tuple(sayings), as_lists(sayings)):
            told = check_sayings(given, 2)
            self.assertEqual(told, tuple(sayings))
            self.assertFalse(holds_list(told))
        self.assertEqual(check_sayings([], 1), ())
        self.assertEqual(check_sayings((ALIKE,) * 40, 2), (ALIKE,) * 40)

    def test_errors_in_their_order(self):
        for call in (check_sayings, cases_of, lot_for):
            for wrong in (0, 4, True, None, "2"):
                self.assertEqual(caught(BadLetters, call, None, wrong), ())
            for wrong in (None, 1, "ab", {}, {ALIKE}, (ALIKE,) * 41, [None] * 41, iter(())):
                self.assertEqual(caught(BadSaying, call, wrong, 2), ("many",))
            self.assertEqual(caught(BadSaying, call, (ALIKE, None, ()), 2), ("saying",))
            self.assertEqual(caught(BadSaying, call, (("alike", ("c",), ()), None), 2), ("side",))
            self.assertEqual(caught(BadSaying, call, (("alike", ("?1",), ()),), 2), ("side",))
            self.assertEqual(caught(BadExpression, call, [ALIKE, ("in", (), ("letter", "b"))], 1), ("letter",))
            deep = ALIKE
            for _ in range(20):
                deep = ("not", deep)
            self.assertEqual(caught(BadSaying, call, [deep], 2), ("deep",))

    def test_what_is_passed_in_stays(self):
        sayings = as_lists([say("not [ ?x ?y = a ]")])
        before = as_lists(sayings)
        cases_of(sayings, 2)
        lot_for(sayings, 2)
        self.assertEqual(sayings, before)


class CaseTest(unittest.TestCase):
    def test_case_is_a_result(self):
        check_result(self, Case, ["rows", "sets", "full"])

    def test_names(self):
        case = Case((((("?z", "a")), ("b", "?x")),), (("?y", ("any",), True), ("?1", ("any",), False)), ("?w", "?z", "?10"))
        self.assertEqual(case.names, ("?1", "?10", "?w", "?x", "?y", "?z"))
        self.assertEqual(Case((), (), ()).names, ())
        self.assertEqual(Case(((("a",), ()),), (), ("?x",)).names, ("?x",))


class LinesTest(unittest.TestCase):
    def test_no_sayings(self):
        self.assertEqual(cases_of((), 1), (Case((), (), ()),))

    def test_alike(self):
        self.assertEqual(cases("?x a = b ?y"), [((sides("(x)a=b(y)"),), (), ())])
        self.assertEqual(cases("empty = empty"), [((((), ()),), (), ())])

    def test_in(self):
        star = read_expression("a*", 2)
        for words, truth in (("{}", True), ("not [ {} ]", False), ("not [ not [ {} ] ]", True)):
            self.assertEqual(cases(words.format("?x in a*")), [((), (("?x", star, truth),), ())])
            for side, row in (("?x ?x", "(x)(x)=(1)"), ("a", "a=(1)"), ("empty", "=(1)"), ("?x b", "(x)b=(1)")):
                told = cases(words.format(side + " in a*"))
                self.assertEqual(told, [((sides(row),), (("?1", star, truth),), ())])

    def test_not_alike(self):
        told = cases("not [ ?x a = ?y ]")
        self.assertEqual(told[0], ((sides("(x)a=(y)(1)"),), (), ("?1",)))
        self.assertEqual(told[1], ((sides("(y)=(x)a(1)"),), (), ("?1",)))
        self.assertEqual(told[2], ((sides("(x)a=(1)a(2)"), sides("(y)=(1)b(3)")), (), ()))
        self.assertEqual(told[3], ((sides("(x)a=(1)b(2)"), sides("(y)=(1)a(3)")), (), ()))
        self.assertEqual(len(told), 4)
        self.assertEqual(len(cases("not [ ?x = ?y ]", letters=1)), 2)
        told = cases("not [ ?x = ?y ]", letters=3)
        couples = [(rows[0][1][1], rows[1][1][1]) for rows, _, _ in told[2:]]
        self.assertEqual(couples, [("a", "b"), ("a", "c"), ("b", "a"), ("b", "c"), ("c", "a"), ("c", "b")])

    def test_and_or(self):
        one, two, three = [(sides(row),) for row in ("(x)=a", "(x)=b", "(y)=")]
        self.assertEqual(cases("all [ ?x = a ; ?x = b ; ?y = empty ]"), [(one + two + three, (), ())])
        self.assertEqual(cases("all [ ?x = a ]"), [(one, (), ())])
        self.assertEqual(cases("some [ ?x = a ; ?x = b ; ?y = empty ]"), [(row, (), ()) for row in (one, two, three)])
        self.assertEqual(cases("some [ ?x = b ]"), [(two, (), ())])
        told = cases("all [ some [ ?x = a ; ?x = b ] ; ?y = empty ; some [ ?x = b ; ?y = empty ; ?x = a ] ]")
        self.assertEqual(told, [(first + three + last, (), ()) for first in (one, two) for last in (two, three, one)])
        told = cases("some [ all [ ?x = a ; ?x = b ] ; some [ ?y = empty ] ]")
        self.assertEqual(told, [(one + two, (), ()), (three, (), ())])

    def test_sayings_are_one_and(self):
        self.assertEqual(cases("some [ ?x = a ; ?x = b ]", "some [ ?x = b ; ?y = empty ]"),
                         cases("all [ some [ ?x = a ; ?x = b ] ; some [ ?x = b ; ?y = empty ] ]"))

    def test_denials(self):
        self.assertEqual(cases("not [ not [ ?x = a ] ]"), cases("?x = a"))
        self.assertEqual(cases("not [ not [ not [ ?x = a ] ] ]"), cases("not [ ?x = a ]"))
        self.assertEqual(cases("not [ all [ ?x = a ; ?x in b ] ]"), cases("some [ not [ ?x = a ] ; not [ ?x in b ] ]"))
        self.assertEqual(cases("not [ some [ ?x = a ; ?x in b ] ]"), cases("all [ not [ ?x = a ] ; not [ ?x in b ] ]"))
        self.assertEqual(cases("not [ all [ some [ ?x in a ; not [ ?x = a ] ] ; ?y = b ] ]"),
                         cases("some [ all [ not [ ?x in a ] ; ?x = a ] ; not [ ?y = b ] ]"))

    def test_fresh_names_are_numbered_anew_in_each_case(self):
        told = cases("a ?x in a*", "not [ ?x = b ]", "?y ?y in b*")
        star, other = read_expression("a*", 2), read_expression("b*", 2)
        self.assertEqual(told[0], ((sides("a(x)=(1)"), sides("(x)=b(2)"), sides("(y)(y)=(3)")),
                                   (("?1", star, True), ("?3", other, True)), ("?2",)))
        self.assertEqual(told[3], ((sides("a(x)=(1)"), sides("(x)=(2)b(3)"), sides("b=(2)a(4)"), sides("(y)(y)=(5)")),
                                   (("?1", star, True), ("?5", other, True)), ()))

    def test_kinds(self):
        told = cases_of(as_lists([say("not [ all [ ?x = a ; ?x a in b ] ]")]), 2)
        self.assertIs(type(told), tuple)
        for case in told:
            self.assertIs(type(case), Case)
            self.assertFalse(holds_list((case.rows, case.sets, case.full, case.names)))


class WideTest(unittest.TestCase):
    def test_cases(self):
        some = "some [ " + " ; ".join(["?x = a"] * 8) + " ]"
        self.assertEqual(len(cases(some, some)), 64)
        for wide in ((some, some, "some [ ?x = a ; ?x = b ]"), ("some [ " + " ; ".join(["?x = a"] * 65) + " ]",),
                     ("some [ " + " ; ".join([some] * 9) + " ]",)):
            self.assertEqual(caught(TooWide, cases_of, [say(text) for text in wide], 2), ("cases",))
        for word, other in (("all", "some"), ("not [ some", "all")):
            behind = " ]" if word[0] == "n" else ""
            part = "not [ ?x in a ]" if behind else "?x = a"
            eight, two = [f"{other} [ " + " ; ".join([part] * many) + " ]" for many in (8, 2)]
            self.assertEqual(len(cases(f"{word} [ {eight} ; {eight} ]" + behind)), 64)
            wide = say(f"{word} [ {eight} ; {eight} ; {two} ]" + behind)
            self.assertEqual(caught(TooWide, cases_of, [wide], 2), ("cases",))
        self.assertEqual(len(cases(*["not [ ?x = a ]"] * 3)), 64)
        self.assertEqual(caught(TooWide, cases_of, [say("not [ ?x = a ]")] * 4, 2), ("cases",))
        self.assertEqual(len(cases_of([say("not [ ?x = a ]", 1)] * 6, 1)), 64)
        self.assertEqual(caught(TooWide, cases_of, [say("not [ ?x = a ]", 1)] * 7, 1), ("cases",))
        self.assertEqual(len(cases(*["not [ ?x = a ]"] * 2, letters=3)), 64)

    def test_counted_and_not_made(self):
        many = [say("not [ ?x = a ]", 3)] * 40
        self.assertEqual(caught(TooWide, cases_of, many, 3), ("cases",))
        self.assertEqual(caught(TooWide, cases_of, [("and",) + tuple(many), ("or",) + tuple(many)], 3), ("cases",))

    def test_names(self):
        ten = " ".join("?" + letter for letter in "abcdefghij")
        self.assertEqual(len(cases_of([say(ten + " = a")], 2)[0].names), 10)
        self.assertEqual(caught(TooWide, cases_of, [say(ten + " ?k = a")], 2), ("names",))
        self.assertEqual(caught(TooWide, cases_of, [say(ten + " in a")], 2), ("names",))
        self.assertEqual(caught(TooWide, cases_of, [say("some [ ?x = a ; " + ten + " in a ]")], 2), ("names",))
        self.assertEqual(len(cases_of([say("a in a")] * 10, 2)[0].names), 10)
        self.assertEqual(caught(TooWide, cases_of, [say("a in a")] * 11, 2), ("names",))
        # Names of unlike cases do not add up.
        self.assertEqual(len(cases_of([say("some [ " + ten + " = a ; ?k = b ]")], 2)), 2)

    def test_both_at_once(self):
        wide = [say("a in a")] * 11 + [say("not [ ?x = a ]")] * 4
        self.assertEqual(caught(TooWide, cases_of, wide, 2), ("cases",))
        self.assertEqual(caught(BadSaying, cases_of, wide + [None], 2), ("saying",))


class MeaningTest(unittest.TestCase):
    def choices(self, case, texts):
        """All choices of fresh texts that meet a case, each cut out of the texts of its sides."""
        fresh = [name for name in case.names if name not in texts]
        parts = {""}
        for row in case.rows:
            for side in row:
                text = side_text([item for item in side if item not in fresh], texts)
                parts |= {text[begin:end] for begin in range(len(text)) for end in range(begin + 1, len(text) + 1)}
        met = []
        for chosen in product(sorted(parts), repeat=len(fresh)):
            whole = {**texts, **dict(zip(fresh, chosen))}
            if (all(side_text(one, whole) == side_text(other, whole) for one, other in case.rows)
                    and all(matches(expression, whole[name]) == wanted for name, expression, wanted in case.sets)
                    and all(whole[name] for name in case.full)):
                met.append(whole)
        return met

    def test_all_sayings_hold_exactly_if_some_case_can_be_met(self):
        draw = random.Random(144)
        counts = {True: 0, False: 0}
        while min(counts.values()) < 150:
            letters = draw.choice((1, 2, 2, 3))
            alphabet = "abc"[:letters]
            sayings = [random_saying(draw, ("?x", "?y"), draw.randrange(3), alphabet) for _ in range(draw.randrange(1, 3))]
            try:
                told = cases_of(sayings, letters)
            except TooWide:
                continue
            if max(len(case.names) for case in told) > 5:
                continue
            named = {name for saying in sayings for name in names_of(saying)}
            for _ in range(3):
                texts = {name: draw.choice(texts_up_to(alphabet, 2)) for name in named}
                truth = all(saying_holds(saying, texts) for saying in sayings)
                met = [self.choices(case, texts) for case in told]
                self.assertEqual(any(met), truth, (sayings, texts))
                self.assertLessEqual(max(len(choices) for choices in met), 1)
                counts[truth] += 1


class LotTest(unittest.TestCase):
    def test_expressions_in(self):
        sayings = [say("all [ ?x in a* ; not [ some [ a in b ; ?x = a ; ?y in a* ] ] ]"), say("?x in a|b"), say("?x in b")]
        told = tuple(read_expression(text, 2) for text in ("a*", "b", "a|b"))
        self.assertEqual(expressions_in(sayings), told)
        self.assertEqual(expressions_in(tuple(sayings)), told)
        self.assertEqual(expressions_in(()), ())
        self.assertEqual(expressions_in([ALIKE]), ())

    def test_lot_for(self):
        sayings = [say("not [ ?x in a* ]"), say("?x ?x in .*b")]
        for given in (sayings, as_lists(sayings)):
            watcher, lot = lot_for(given, 2)
            self.assertIs(type(watcher), Watcher)
            self.assertIs(type(lot), Deeds)
            self.assertEqual(watcher, watcher_of([read_expression(text, 2) for text in ("a*", ".*b")], 2))
            self.assertEqual(lot, deeds_of(watcher))
        watcher, lot = lot_for((), 3)
        self.assertEqual((watcher, lot), (watcher_of((), 3), deeds_of(watcher_of((), 3))))

    def test_too_many(self):
        wide = [say("?x in (...)*a.."), say("?x in (.....)*"), say("?y in (aab)*b*a")]
        self.assertEqual(caught(TooMany, lot_for, wide, 2), ())
        self.assertEqual(caught(BadSaying, lot_for, wide + [0], 2), ("saying",))


if __name__ == "__main__":
    unittest.main()
