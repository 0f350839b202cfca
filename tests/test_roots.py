"""Roots of cases [14.6]."""

import random
import unittest
from itertools import product

from pressedwords.books import Book, Clash
from pressedwords.cases import Case, cases_of, expressions_in, lot_for
from pressedwords.errors import TooMany, TooWide
from pressedwords.expressions import matches
from pressedwords.roots import Root, roots_of
from pressedwords.sayings import side_text
from pressedwords.sayingtext import read_saying
from pressedwords.settling import start_of
from tests.helpers import check_result, holds_list, lot_for as lot_of, texts_up_to, watcher_for
from tests.test_fillings import random_saying


def say(text, letters=2):
    return read_saying(text, letters)


def roots(*texts, letters=2):
    sayings = [say(text, letters) for text in texts]
    watcher, lot = lot_for(sayings, letters)
    case, = cases_of(sayings, letters)
    return roots_of(case, expressions_in(sayings), watcher, lot), lot


class RootTest(unittest.TestCase):
    def test_root_is_a_result(self):
        check_result(self, Root, ["told", "letters", "unknowns", "spares", "empties"])

    def test_every_subset_in_order(self):
        told, _ = roots("?x ?z = ?y ?x")
        self.assertIs(type(told), tuple)
        self.assertEqual([root.empties for root in told],
                         [(), ("?x",), ("?y",), ("?x", "?y"), ("?z",), ("?x", "?z"), ("?y", "?z"), ("?x", "?y", "?z")])
        for root in told:
            self.assertIs(type(root), Root)
            self.assertFalse(holds_list((root.letters, root.unknowns, root.spares, root.empties)))

    def test_no_names(self):
        told, lot = roots("a b = a b")
        self.assertEqual(told, (Root(Book((), (), (), 1), (), (), (), ()),))
        told, lot = roots("a = b")
        self.assertEqual(told, (Root(Clash("front", 0), (), (), (), ()),))
        self.assertEqual(roots()[0], (Root(Book((), (), (), 1), (), (), (), ()),))

    def test_names_taken_out_and_numbers_told(self):
        told, lot = roots("?z b ?x = ?x a ?z")
        deeds = (lot.letter_deed("a"), lot.letter_deed("b"))
        every = (0, (0,))
        both = Book([((-1, 0, -2), (-2, 1, -1))], deeds, (every, every))
        self.assertEqual(told[0], Root(both, ("b", "a"), ("?z", "?x"), (), ()))
        self.assertEqual(told[1].told, start_of(Book([((-1, 1), (0, -1))], deeds, (every,)), lot).told)
        self.assertEqual((told[1].letters, told[1].unknowns, told[1].empties), (("b", "a"), ("?z",), ("?x",)))
        self.assertEqual((told[2].letters, told[2].unknowns, told[2].empties), (("b", "a"), ("?x",), ("?z",)))
        self.assertEqual(told[3], Root(Clash("front", 0), (), (), (), ("?x", "?z")))

    def test_goals(self):
        told, lot = roots("?x in a*b", "?y = ?x ?x", "not [ ?x in a*b* ]")
        self.assertEqual([(root.told, root.empties) for root in told], [(Clash("state", 0), ()), (Clash("empty", 0), ("?y",))])
        told, lot = roots("?x in .*b", "not [ ?x in b* ]", "?y in (a|b)*", "?x a = a ?y")
        wanted = lot.watcher.goals_where(((0, True), (1, False)))
        self.assertEqual([root.empties for root in told], [(), ("?y",)])
        self.assertEqual(told[0].told.ends[0], (0, wanted))
        self.assertEqual(told[0].told.ends[1], (0, lot.watcher.goals_where(((2, True),))))

    def test_the_empty_text_has_to_be_a_goal(self):
        for text, empties in (("?x in a*", [(), ("?x",)]), ("?x in aa*", [()]), ("not [ ?x in a* ]", [()]),
                              ("?x in _", [(), ("?x",)]), ("not [ ?x in _ ]", [()])):
            told, lot = roots(text)
            self.assertEqual([root.empties for root in told], empties)
        self.assertEqual([root.told for root in roots("?x in _")[0]], [Clash("state", 0), Book((), (), (), 2)])

    def test_names_of_full(self):
        watcher, lot = watcher_for([], 2), lot_of([], 2)
        case = Case((((("?x",), ("?y", "?z"))),), (), ("?x", "?z"))
        self.assertEqual([root.empties for root in roots_of(case, (), watcher, lot)], [(), ("?y",)])

    def test_spares(self):
        told, lot = roots("?z in .*a", "?x in .*b", "?y = b")
        goals = {name: lot.watcher.goals_where(((number, True),)) for name, number in (("?z", 0), ("?x", 1))}
        root = told[0]
        self.assertEqual(root.spares, (("?x", (0, goals["?x"])), ("?z", (0, goals["?z"]))))
        self.assertEqual((root.letters, root.unknowns, root.empties), (("b",), ("?y",), ()))
        # Letters that stand in no row are letters of the book that is settled, and are told no more.
        self.assertEqual(len(root.told.deeds), 1)

    def test_one_state_too_many_for_a_clash(self):
        told, lot = roots("?x in a*", "not [ ?x in a* ]", "?y = ?y")
        self.assertEqual([root.told for root in told], [Clash("state", 0), Clash("state", 0)])
        self.assertEqual([root.empties for root in told], [(), ("?y",)])


class MeaningTest(unittest.TestCase):
    def meets(self, case, texts):
        return (all(side_text(one, texts) == side_text(other, texts) for one, other in case.rows)
                and all(matches(expression, texts[name]) == wanted for name, expression, wanted in case.sets)
                and all(texts[name] for name in case.full))

    def filled(self, root, texts, lot):
        """Whether the texts fill what is told and the spares."""
        names = root.letters
        rows = [["".join(names[sign] if sign >= 0 else texts[root.unknowns[-1 - sign]] for sign in side) for side in row]
                for row in root.told.rows]
        ends = list(zip(root.unknowns, root.told.ends)) + list(root.spares)
        return (all(one == other for one, other in rows)
                and all(texts[name] and lot.text_deed(texts[name])[start] in goals for name, (start, goals) in ends))

    def test_texts_meet_a_case_exactly_if_there_is_a_root_for_them(self):
        draw = random.Random(146)
        counts = {True: 0, False: 0}
        while min(counts.values()) < 200:
            sayings = [random_saying(draw, ("?x", "?y"), draw.randrange(2), "ab") for _ in range(2)]
            try:
                watcher, lot = lot_for(sayings, 2)
                case = draw.choice(cases_of(sayings, 2))
            except (TooMany, TooWide):
                continue
            if len(case.names) > 3:
                continue
            told = roots_of(case, expressions_in(sayings), watcher, lot)
            for chosen in product(texts_up_to("ab", 2), repeat=len(case.names)):
                texts = dict(zip(case.names, chosen))
                met = self.meets(case, texts)
                empties = tuple(name for name in case.names if not texts[name])
                fits = [root for root in told if root.empties == empties and isinstance(root.told, Book)
                        and self.filled(root, texts, lot)]
                self.assertEqual(len(fits), 1 if met else 0)
                counts[met] += 1


if __name__ == "__main__":
    unittest.main()
