"""Solving [14.7 to 14.11]."""

import random
import unittest
from itertools import product

from pressedwords.carries import Carries
from pressedwords.cases import cases_of, expressions_in, lot_for
from pressedwords.errors import (BadExpression, BadLetters, BadOrder, BadRoom, BadSaying, Ended, TooFull, TooMany, TooWide)
from pressedwords.fillings import Filling, judge_filling
from pressedwords.nets import Net
from pressedwords.nettext import net_text, read_net
from pressedwords.papers import Entry, Paper, Shut, closed_list, join_papers, trim_paper
from pressedwords.roots import roots_of
from pressedwords.sayings import names_of, saying_holds
from pressedwords.sayingtext import read_saying
from pressedwords.solving import Solving, follows, judge_shut, solve
from tests.helpers import as_lists, caught, texts_up_to
from tests.test_fillings import random_saying

ORDERS = ("first", "last", "least", (3, 1, 4, 1, 5))
SHUT = ("?x b = a ?x", "b a ?x b ?x b = ?x ?x ?x", "?x ?x ?x = b ?x ?y a", "b a a = ?y b b ?x b ?x")
GOING = "?y a ?x a = a b ?x"


def say(text, letters=2):
    return read_saying(text, letters)


def says(*texts, letters=2):
    return tuple(say(text, letters) for text in texts)


class SolvingTest(unittest.TestCase):
    def test_attributes(self):
        sayings = says("some [ ?x = a ?x ; ?x a = b ?y ]", "?y in a*")
        solving = Solving(as_lists(sayings), 2, [1, 2], room=40)
        self.assertEqual(solving.sayings, sayings)
        self.assertEqual((solving.letters, solving.order, solving.room, solving.known), (2, (1, 2), 40, None))
        self.assertEqual((solving.watcher, solving.lot), lot_for(sayings, 2))
        self.assertEqual(solving.cases, cases_of(sayings, 2))
        rooted = [(number, root) for number, case in enumerate(solving.cases)
                  for root in roots_of(case, expressions_in(sayings), solving.watcher, solving.lot)]
        self.assertEqual(solving.roots, tuple(root for _, root in rooted))
        self.assertEqual(solving.owners, tuple(number for number, _ in rooted))
        self.assertIs(type(solving.net), Net)
        self.assertEqual(net_text(solving.net),
                         net_text(Net([root.told for root in solving.roots], solving.lot, (1, 2), room=40)))
        self.assertEqual(solving.net.known, ())

    def test_default_values(self):
        solving = Solving(says(GOING))
        self.assertEqual((solving.letters, solving.order, solving.room, solving.known), (2, "first", 300, None))
        self.assertEqual((solving.told, solving.ended), (None, False))

    def test_errors_in_their_order(self):
        many = [say("a in a")] * 11
        wide = [say("not [ ?x = a ]")] * 4
        lots = [say("?x in (...)*a.."), say("?x in (.....)*"), say("?y in (aab)*b*a")]
        full = says("?x ?y = ?y ?x", "?z a = a ?z", "?x ?z = ?y ?x")
        for call in (Solving, solve):
            self.assertEqual(caught(BadLetters, call, None, 4, "no"), ())
            self.assertEqual(caught(BadSaying, call, None, 2, "no"), ("many",))
            self.assertEqual(caught(BadSaying, call, [None], 2, "no"), ("saying",))
            self.assertEqual(caught(BadExpression, call, [("in", (), ())], 2, "no"), ("form",))
            self.assertEqual(caught(TooWide, call, many + wide + lots, 2, "no"), ("cases",))
            self.assertEqual(caught(TooWide, call, many + lots, 2, "no"), ("names",))
            self.assertEqual(caught(TooMany, call, lots, 2, "no"), ())
            self.assertEqual(caught(BadOrder, lambda: call(full, 2, "no", room=0)), ())
            self.assertEqual(caught(BadRoom, lambda: call(full, room=0)), ())
            self.assertEqual(caught(TooFull, lambda: call(full, room=1)), ((),))

    def test_advance(self):
        for order in ORDERS:
            solving = Solving(says(GOING), 2, order)
            net = Net([root.told for root in solving.roots], solving.lot, order)
            while not net.ended:
                self.assertEqual((solving.told, solving.ended), (None, False))
                self.assertIsNone(solving.advance())
                net.advance()
                self.assertEqual(net_text(solving.net), net_text(net))
            self.assertEqual(solving.ended, True)
            self.assertEqual(solving.told, Shut(closed_list(net)))
            told = solving.told
            self.assertEqual(caught(Ended, solving.advance), ("shut",))
            self.assertEqual(solving.told, told)

    def test_ended_at_the_making(self):
        for text, kind in (("?x = ?x", Filling), ("a = b", Shut), ("?x in a*", Filling), ("?x = b ?x", Shut), ("a b = a b", Filling)):
            solving = Solving(says(text))
            self.assertIs(type(solving.told), kind)
            self.assertIs(solving.ended, True)
            how = "filled" if kind is Filling else "shut"
            self.assertEqual(caught(Ended, solving.advance), (how,))
        self.assertEqual(Solving(()).told.words, ())

    def test_too_full(self):
        solving = Solving(says(GOING), room=5)
        seen = []
        while True:
            waiting = solving.net.open_books
            before = net_text(solving.net)
            try:
                solving.advance()
            except TooFull as error:
                self.assertEqual(error.waiting, waiting)
                break
            seen.append(solving.net.looks)
        self.assertEqual(net_text(solving.net), before)
        self.assertEqual((solving.told, solving.ended), (None, False))
        self.assertEqual(caught(TooFull, lambda: solve(says(GOING), room=5)), (waiting,))

    def test_room_just_enough(self):
        for text in SHUT + (GOING, "b ?x a a b = b ?y ?y"):
            for order in ORDERS:
                solving = Solving(says(text), 2, order)
                while not solving.ended:
                    solving.advance()
                many = len(solving.net)
                self.assertEqual(solve(says(text), 2, order, room=many), solving.told)
                least = len({root.told.key for root in solving.roots if hasattr(root.told, "key")})
                if many > least:
                    caught(TooFull, lambda: solve(says(text), 2, order, room=many - 1))

    def test_refresh(self):
        solving = Solving(says(GOING))
        self.assertIsNone(solving.refresh())
        solving.net.run(3)
        self.assertIsNone(solving.refresh())
        solving.net.run(1000)
        self.assertEqual((solving.told, solving.ended), (None, False))
        self.assertEqual(caught(Ended, solving.advance), ("shut",))
        told = solving.refresh()
        self.assertEqual(told, Shut(closed_list(solving.net)))
        self.assertIs(solving.told, told)
        solving.net.forget(0)
        self.assertIsNone(solving.refresh())
        self.assertEqual((solving.told, solving.ended), (None, False))
        solving.advance()
        self.assertEqual(solving.told, told)

    def test_another_net(self):
        for text in (GOING, "b ?x a a b = b ?y ?y"):
            solving = Solving(says(text))
            solving.advance()
            other = read_net(net_text(solving.net), solving.lot)
            solving.net = other
            self.assertIsNone(solving.refresh())
            while not solving.ended:
                solving.advance()
            self.assertEqual(solving.told, solve(says(text)))
            fresh = Solving(says(text))
            fresh.net = read_net(net_text(solving.net), solving.lot)
            self.assertEqual(fresh.refresh(), solving.told)

    def test_known_papers(self):
        sayings = says(GOING)
        paper = solve(sayings).paper
        for known in (paper, trim_paper([paper.books[3]], paper, lot_for(sayings, 2)[1])):
            solving = Solving(sayings, known=known)
            self.assertEqual(solving.known, known)
            self.assertEqual(solving.net.known, known.books)
            told = solve(sayings, known=known)
            self.assertIsNone(judge_shut(sayings, 2, told))
            while not solving.ended:
                solving.advance()
            self.assertEqual(solving.told, told)
            self.assertTrue(solving.net.borrowed)
        self.assertEqual(solve(sayings, known=paper).paper, paper)
        self.assertEqual(Solving(sayings, known=paper).net.looks, 0)

    def test_known_papers_of_other_deeds(self):
        paper = solve(says(GOING)).paper
        other = says(GOING, "?x in .*ab.*")
        solving = Solving(other, known=paper)
        self.assertIsNone(solving.known)
        self.assertEqual(solving.net.known, ())
        self.assertEqual(solve(other, known=paper), solve(other))
        filled = says("b ?x a a b = b ?y ?y")
        self.assertEqual(solve(filled, known=paper), solve(filled))


class SolveTest(unittest.TestCase):
    def check(self, sayings, letters, told, length):
        names = sorted({name for saying in sayings for name in names_of(saying)})
        if isinstance(told, Filling):
            self.assertEqual(told.names, tuple(names))
            self.assertIsNone(judge_filling(sayings, letters, told))
            texts = dict(told.texts(10 ** 4))
            if max(map(len, texts.values()), default=0) < 60:
                self.assertTrue(all(saying_holds(saying, texts) for saying in sayings))
            return "filled"
        self.assertIs(type(told), Shut)
        self.assertIsNone(judge_shut(sayings, letters, told))
        for chosen in product(texts_up_to("abc"[:letters], length), repeat=len(names)):
            texts = dict(zip(names, chosen))
            self.assertFalse(all(saying_holds(saying, texts) for saying in sayings), (sayings, texts))
        return "shut"

    def test_small_sayings_against_all_short_texts(self):
        draw = random.Random(149)
        counts = {"filled": 0, "shut": 0}
        while min(counts.values()) < 60:
            letters = draw.choice((1, 2, 2, 3))
            names = ("?x", "?y", "?z")[:draw.randrange(1, 4)]
            sayings = [random_saying(draw, names, draw.randrange(3), "abc"[:letters]) for _ in range(draw.randrange(1, 4))]
            ends = set()
            for order in ORDERS:
                try:
                    told = solve(sayings, letters, order, room=12)
                except (TooWide, TooMany, TooFull):
                    continue
                ends.add(self.check(sayings, letters, told, 2 if order == "first" else 0))
            self.assertLessEqual(len(ends), 1)
            for end in ends:
                counts[end] += 1

    def test_shut_for_all_texts(self):
        for text in SHUT + (GOING,):
            for order in ORDERS:
                self.assertEqual(self.check(says(text), 2, solve(says(text), 2, order), 3), "shut")

    def test_filled(self):
        for texts in (("?x a b = a b ?x", "?x in ...*"), ("b ?x a a b = b ?y ?y",), ("?x ?y = ?y ?x", "?x in a*", "not [ ?y in a* ]"),
                      ("not [ ?x b = b ?x ]", "?x in a*"), ("?x = ?y", "?y = ?z", "?z in bab"),
                      ("?x ?x = ?y", "?y in aaaa(aa)*")):
            for order in ORDERS:
                self.check(says(*texts), 2, solve(says(*texts), 2, order), 0)

    def test_lengths_in_sets(self):
        for text, kind in (("?x in (aa)*a", Filling), ("?x in (aaa)*b", Shut)):
            sayings = says("?x ?x a = a ?y", "?y in (aa)*", text, letters=2)
            self.assertIs(type(solve(sayings)), kind)
        self.assertIs(type(solve(says("?x ?x = ?y", "?y in (aaaa)*", "?x in (aa)*a", letters=1), 1, room=500)), Shut)
        told = solve(says("?x ?x = ?y", "?y in (aaaa)*aa", "?x in (aa)*a", letters=1), 1, room=500)
        self.assertIs(type(told), Filling)
        shut = solve(says("?x ?x = ?y a", "?y in (aa)*", letters=1), 1)
        self.assertIs(type(shut), Shut)

    def test_letters_and_sets_that_one_saying_speaks_of(self):
        told = solve(says("?x = ?y", "?z in c", "not [ ?y = ?x a ]", letters=3), 3)
        self.assertEqual(dict(told.texts(9))["?z"], "c")
        self.assertIsNone(judge_filling(says("?x = ?y", "?z in c", letters=3), 3, told))
        told = solve(says("?x a = a ?x", "not [ ?x in a* ]"))
        self.assertIs(type(told), Shut)
        told = solve(says("?x a = a ?x", "?y in .*b.*"))
        self.assertEqual(self.check(says("?x a = a ?x", "?y in .*b.*"), 2, told, 0), "filled")

    def test_names_that_are_not_in_a_case(self):
        told = solve(says("some [ a = a ; ?x = b ]", "some [ ?y = a ; ?z = b ]"))
        self.assertEqual(told.names, ("?x", "?y", "?z"))
        texts = dict(told.texts(9))
        self.assertEqual((texts["?x"], texts["?z"]), ("", ""))

    def test_fresh_names_are_not_told(self):
        told = solve(says("not [ ?x = a ?y ]", "?x b ?y in .*"))
        self.assertEqual(told.names, ("?x", "?y"))

    def test_no_sayings(self):
        for letters in (1, 2, 3):
            self.assertEqual(solve((), letters).words, ())

    def test_forty_sayings(self):
        sayings = says(*["?x = a"] * 40)
        self.assertEqual(solve(sayings).texts(9), (("?x", "a"),))
        self.assertEqual(caught(BadSaying, solve, sayings + sayings[:1]), ("many",))


class JudgeTest(unittest.TestCase):
    def test_errors(self):
        shut = solve(says(GOING))
        self.assertEqual(caught(BadLetters, judge_shut, (), 0, shut), ())
        self.assertEqual(caught(BadSaying, judge_shut, 1, 2, shut), ("many",))
        self.assertEqual(caught(TooWide, judge_shut, [say("not [ ?x = a ]")] * 4, 2, shut), ("cases",))
        wide = [say("?x in (...)*a.."), say("?x in (.....)*"), say("?y in (aab)*b*a")]
        self.assertEqual(caught(TooMany, judge_shut, wide, 2, shut), ())

    def test_each_fault(self):
        sayings = says(GOING)
        paper = solve(sayings).paper
        self.assertIsNone(judge_shut(sayings, 2, Shut(paper)))
        self.assertIsNone(judge_shut(as_lists(sayings), 2, Shut(paper)))
        self.assertEqual(judge_shut(says(GOING, "?x in .*ab.*"), 2, Shut(paper)), ("deeds",))
        entries = paper.entries
        self.assertEqual(judge_shut(sayings, 2, Shut(Paper(paper.deeds, entries + entries[:1]))), ("double", len(paper)))
        self.assertEqual(judge_shut(sayings, 2, Shut(Paper(paper.deeds, entries[1:])))[0], "root")
        self.assertEqual(judge_shut(sayings, 2, Shut(Paper(paper.deeds, entries[:-1])))[0], "open")
        wrong = Entry(entries[2].book, ("first", 9), ())
        self.assertEqual(judge_shut(sayings, 2, Shut(Paper(paper.deeds, entries[:2] + (wrong,) + entries[3:]))), ("step", 2))
        carried = solve(sayings).paper
        at = next(at for at, entry in enumerate(carried) if entry.lots)
        entry = carried.entries[at]
        spoiled = Entry(entry.book, entry.step, tuple((place, Carries(())) for place, _ in entry.lots))
        told = judge_shut(sayings, 2,
                          Shut(Paper(carried.deeds, carried.entries[:at] + (spoiled,) + carried.entries[at + 1:])))
        self.assertEqual(told[:2], ("carries", at))

    def test_the_number_of_a_root(self):
        sayings = says("?x ?x ?x = b ?x ?y a")
        solving = Solving(sayings)
        paper = solve(sayings).paper
        for book in paper.books:
            where = [at for at, root in enumerate(solving.roots) if root.told == book]
            some = Paper(paper.deeds, [entry for entry in paper if entry.book != book])
            if where and judge_shut(sayings, 2, Shut(some))[0] == "root":
                self.assertEqual(judge_shut(sayings, 2, Shut(some)), ("root", where[0]))

    def test_no_paper_is_taken_for_sayings_that_hold(self):
        sayings = says("b ?x a a b = b ?y ?y")
        paper = solve(says(GOING)).paper
        solving = Solving(sayings)
        while not solving.ended:
            solving.advance()
        entries = [Entry(book, ("first", 0), ()) for book in solving.net.books if book.rows]
        for shut in (Shut(paper), Shut(Paper(paper.deeds, ())), Shut(Paper(paper.deeds, entries))):
            self.assertIsNotNone(judge_shut(sayings, 2, shut))

    def test_joined_papers(self):
        papers = [solve(says(text)).paper for text in SHUT]
        joined = papers[0]
        for paper in papers[1:]:
            joined = join_papers(joined, paper)
        for text in SHUT:
            self.assertIsNone(judge_shut(says(text), 2, Shut(joined)))


class FollowsTest(unittest.TestCase):
    def test_follows(self):
        told = follows(says("?x a = a ?x"), say("?x in a*"))
        self.assertIs(type(told), Shut)
        self.assertIsNone(judge_shut(says("?x a = a ?x", "not [ ?x in a* ]"), 2, told))
        told = follows(says("?x a = a ?x"), say("?x in aa*"))
        self.assertEqual(told.texts(9), (("?x", ""),))
        self.assertIs(type(follows((), say("?x = ?x"))), Shut)
        self.assertIs(type(follows((), say("?x = ?y"))), Filling)
        for order in ORDERS:
            told = follows(says("?x ?x = ?y a"), say("?y in (aa)*a", 1), 1, order, room=233)
            self.assertIs(type(told), Shut)
        caught(TooFull, lambda: follows(says("?x ?x = ?y a"), say("?y in (aa)*a", 1), 1, room=232))

    def test_many_sayings(self):
        sayings = says(*["?x = a"] * 39)
        self.assertIs(type(follows(sayings, say("?x in a"))), Shut)
        self.assertEqual(caught(BadSaying, follows, sayings + sayings[:1], say("?x in a")), ("many",))

    def test_errors_in_their_order(self):
        self.assertEqual(caught(BadLetters, follows, None, None, 0), ())
        self.assertEqual(caught(BadSaying, follows, None, None, 2), ("many",))
        self.assertEqual(caught(BadSaying, follows, says("?x = a") * 41, None), ("many",))
        self.assertEqual(caught(BadSaying, follows, [("alike", (), 1)], None), ("side",))
        self.assertEqual(caught(BadSaying, follows, (), None), ("saying",))
        self.assertEqual(caught(BadSaying, follows, says("?x = a") * 40, None), ("many",))
        deep = say("?x = a")
        for _ in range(19):
            deep = ("not", deep)
        self.assertEqual(caught(BadSaying, follows, (), deep), ("deep",))
        self.assertEqual(caught(BadOrder, follows, (), say("?x = a"), 2, "no"), ())
        self.assertEqual(caught(BadRoom, lambda: follows((), say("?x = a"), room=0)), ())


if __name__ == "__main__":
    unittest.main()
