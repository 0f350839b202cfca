"""The desk [16.2 to 16.9, 16.12]."""

import random
import unittest
from itertools import product

from pressedwords.cases import lot_for
from pressedwords.desk import Desk, Trial, engine_text
from pressedwords.deskdeeds import check_deed
from pressedwords.errors import (BadDeed, BadExpression, BadLetters, BadOrder, BadRoom, BadSaying, BadScript, FullDesk, IsCut, NoBack,
                                 NoEngine, NoIf, NoPaper, NoScript, NoStatement, NotCut, NoWay, PressError, TooFull, TooMany, TooWide)
from pressedwords.fillings import Filling, judge_filling
from pressedwords.judging import judge_list
from pressedwords.nettext import net_text
from pressedwords.papers import Shut, join_papers
from pressedwords.sayings import names_of, saying_holds
from pressedwords.scripts import Script, read_script, turned_at
from pressedwords.solving import Solving, follows, judge_shut, solve
from pressedwords.stories import put_away, taken_up
from pressedwords.ways import Never, input_for, meet_goals, stop_goals, told_apart
from tests.helpers import Alien, as_lists, caught, check_result, holds_list, texts_up_to
from tests.test_fillings import random_saying
from tests.test_scripts import random_block
from tests.test_solving import GOING, SHUT, say, says

TWO = "?x ?x ?x = b ?x ?y a"
FILLED = "b ?x a a b = b ?y ?y"
SCRIPT = "read ?x , if ?x = a { stop 1 , put ?y empty } else { if ?x in b* { } else { read ?z } , read ?x } , stop 99"


def desk_with(*texts, **given):
    desk = Desk(**given)
    for text in texts:
        desk.do_deed(("say", say(text, desk.letters)))
    return desk


def script_of(text, letters=2):
    return read_script(f"letters {letters} : " + text)


def state(desk):
    return (desk.letters, desk.room, desk.order, desk.said, desk.script, desk.known, engine_text(desk.going), desk.saved, desk.log)


class DeskTest(unittest.TestCase):
    def refused(self, kind, desk, deed):
        """The attributes of the error that a deed raises; the desk stays as it was."""
        before, going = state(desk), desk.going
        told = caught(kind, desk.do_deed, deed)
        self.assertEqual(state(desk), before)
        self.assertIs(desk.going, going)
        return told


class MakingTest(DeskTest):
    def test_errors_in_their_order(self):
        for letters in (0, 4, True, None):
            self.assertEqual(caught(BadLetters, Desk, letters, 0, "no"), ())
        for room in (0, 10 ** 6 + 1, True, None):
            self.assertEqual(caught(BadRoom, Desk, 2, room, "no"), ())
        for order in ("no", (), (-1,), None):
            self.assertEqual(caught(BadOrder, Desk, 2, 1, order), ())

    def test_attributes(self):
        desk = Desk()
        self.assertEqual(state(desk), (2, 300, "first", (), None, (), None, None, ()))
        self.assertIsNone(desk.going)
        self.assertEqual((len(desk), list(desk)), (0, []))
        self.assertEqual(Desk(1, 5, [2, 7]).order, (2, 7))

    def test_log(self):
        desk = desk_with("?x = a", "?x = b")
        desk.do_deed(["solve", 5])
        told = desk.do_deed(("back",))
        self.assertEqual(told, say("?x = b"))
        self.assertEqual(desk.log, ((("say", say("?x = a")), 1), (("say", say("?x = b")), 2), (("solve", 5), desk.log[2][1]),
                                    (("back",), told)))
        self.assertEqual(list(desk), list(desk.log))
        self.assertEqual(len(desk), 4)

    def test_the_log_keeps_checked_deeds(self):
        desk = Desk()
        lists = as_lists(say("not [ ?x in a* ]"))
        block = as_lists(script_of(SCRIPT).statements)
        desk.do_deed(["say", lists])
        desk.do_deed(["follows", lists])
        desk.do_deed(["script", ["new", block]])
        desk.do_deed(["script", ["put in", [1, 0, 2], ["put", "?x", ["b"]]]])
        desk.do_deed(["script", ["turn", [1]]])
        desk.do_deed(["script", ["take out", [1, 1, 2]]])
        desk.do_deed(["same", block])
        desk.do_deed(["hands", 2, [0, 3, 0]])
        desk.do_deed(["way", [1, 0]])
        told = [deed for deed, _ in desk.log]
        saying = say("not [ ?x in a* ]")
        statements = script_of(SCRIPT).statements
        self.assertEqual(told, [
            ("say", saying), ("follows", saying), ("script", ("new", statements)),
            ("script", ("put in", (1, 0, 2), ("put", "?x", ("b",)))), ("script", ("turn", (1,))), ("script", ("take out", (1, 1, 2))),
            ("same", statements), ("hands", 2, (0, 3, 0)), ("way", (1, 0))])
        self.assertFalse(any(holds_list(deed) for deed in told))
        for deed in told:
            self.assertEqual(check_deed(deed), deed)

    def test_wrong_deeds(self):
        desk = desk_with("?x = a")
        desk.do_deed(("solve", 1))
        for deed, what in ((None, "deed"), (("solve",), "many"), (("solve", 0), "field"), (("script", ("turn", ())), "field")):
            self.assertEqual(self.refused(BadDeed, desk, deed), (what,))


class EqualTest(DeskTest):
    def test_equality(self):
        for text in (GOING, FILLED, SHUT[0]):
            deeds = [("say", say(text)), ("script", ("new", script_of(SCRIPT).statements)), ("solve", 2)]
            one, other = Desk(), Desk()
            for deed in deeds:
                one.do_deed(deed)
                self.assertTrue(one != other)
                self.assertFalse(one == other)
                other.do_deed(deed)
                self.assertTrue(one == other)
                self.assertFalse(one != other)
        for alien in (None, 1, Alien(**vars(one))):
            self.assertFalse(one == alien)
            self.assertTrue(one != alien)

    def test_each_part_counts(self):
        self.assertFalse(Desk(2) == Desk(3))
        self.assertFalse(Desk(room=299) == Desk())
        self.assertFalse(Desk(order="last") == Desk())
        self.assertTrue(Desk(order=[1]) == Desk(order=(1,)))

    def test_known_papers_and_what_is_saved_count(self):
        one, other = desk_with(GOING), desk_with(GOING)
        for deed in (("solve", 400), ("back",), ("say", say(GOING))):
            one.do_deed(deed)
        self.assertEqual((one.going, one.saved), (None, None))
        self.assertFalse(one == other)
        one.do_deed(("forget", 0))
        self.assertTrue(one == other)
        one.do_deed(("solve", 1))
        one.do_deed(("cut",))
        self.assertFalse(one == other)

    def test_the_log_does_not_count(self):
        one, other = desk_with(GOING), desk_with("?x = a", GOING)
        other.do_deed(("back",))
        other.do_deed(("back",))
        other.do_deed(("say", say(GOING)))
        self.assertTrue(one == other)

    def test_engines_count_by_their_texts(self):
        one, other = desk_with(GOING), desk_with(GOING)
        one.do_deed(("solve", 3))
        self.assertFalse(one == other)
        for steps in (1, 2):
            other.do_deed(("solve", steps))
            self.assertEqual(one == other, steps == 2)
        one.do_deed(("cut",))
        self.assertFalse(one == other)
        other.do_deed(("cut",))
        self.assertTrue(one == other)
        one.do_deed(("go on",))
        other.do_deed(("go on",))
        self.assertTrue(one == other)

    def test_text_of_an_engine(self):
        made = []
        for text in (GOING, "?x a = b ?x"):
            sayings = says(text)
            known = solve(says(GOING)).paper
            for paper in (None, known):
                solving = Solving(sayings, known=paper)
                made.append(solving)
                if not solving.ended:
                    later = Solving(sayings, known=paper)
                    later.advance()
                    made.append(later)
        made.append(Solving(()))
        made.append(Solving((), 3))
        for one in made:
            for other in made:
                alike = (one.sayings, net_text(one.net)) == (other.sayings, net_text(other.net)) and one.known == other.known
                self.assertEqual(engine_text(one) == engine_text(other), alike)


class SayTest(DeskTest):
    def test_say_and_back(self):
        desk = Desk()
        for many in range(1, 9):
            self.assertEqual(desk.do_deed(("say", as_lists(say("?x = a")))), many)
        self.assertEqual(self.refused(FullDesk, desk, ("say", say("?x = a"))), ())
        self.assertEqual(self.refused(BadSaying, desk, ("say", None)), ("saying",))
        self.assertEqual(desk.do_deed(("back",)), say("?x = a"))
        self.assertEqual(desk.said, says("?x = a") * 7)
        self.assertFalse(holds_list(desk.said))
        for _ in range(7):
            desk.do_deed(("back",))
        self.assertEqual(self.refused(NoBack, desk, ("back",)), ())

    def test_errors_of_the_saying(self):
        desk = Desk(1)
        self.assertEqual(self.refused(BadSaying, desk, ("say", ("alike", ("b",), ()))), ("side",))
        self.assertEqual(self.refused(BadExpression, desk, ("say", ("in", (), ("letter", "b")))), ("letter",))

    def test_the_engine_is_dropped(self):
        for deed in (("say", say("?x = ?x")), ("back",)):
            for cut in (False, True):
                desk = desk_with(GOING)
                desk.do_deed(("solve", 2))
                if cut:
                    desk.do_deed(("cut",))
                desk.do_deed(deed)
                self.assertEqual((desk.going, desk.saved), (None, None))


class SolveTest(DeskTest):
    def test_bit_by_bit(self):
        for text, order in product((GOING, FILLED), ("first", "last", (3, 1))):
            whole = Solving(says(text), 2, order)
            while not whole.ended:
                whole.advance()
            desk = desk_with(text, order=order)
            gone = 0
            while True:
                many, told = desk.do_deed(("solve", 3))
                gone += many
                self.assertEqual(many, 3 if told is None else whole.net.looks - gone + many)
                if told is not None:
                    break
            self.assertEqual((gone, told), (whole.net.looks, whole.told))
            self.assertEqual(desk.known, (told.paper,) if isinstance(told, Shut) else ())
            # An ended one stays and tells the same again.
            before = desk.known
            self.assertEqual(desk.do_deed(("solve", 400)), (0, told))
            self.assertEqual(desk.known, before)

    def test_ended_at_the_making(self):
        desk = desk_with("?x = ?x")
        many, told = desk.do_deed(("solve", 1))
        self.assertEqual((many, told.texts(9)), (0, (("?x", "a"),)))
        desk = desk_with("a = b")
        self.assertEqual(desk.do_deed(("solve", 1))[0], 0)
        self.assertEqual(len(desk.known), 1)
        self.assertEqual(Desk().do_deed(("solve", 1)), (0, solve(())))

    def test_errors_of_the_sayings(self):
        desk = desk_with(*["not [ ?x = a ]"] * 4)
        self.assertEqual(self.refused(TooWide, desk, ("solve", 1)), ("cases",))
        self.assertEqual(self.refused(TooWide, desk, ("hands", 1, ())), ("cases",))
        lots = ["?x in (...)*a..", "?x in (.....)*", "?y in (aab)*b*a"]
        desk = desk_with(*lots)
        self.assertEqual(self.refused(TooMany, desk, ("solve", 1)), ())
        for known in ("a = b", "?x = ?x"):
            desk = desk_with(known)
            desk.do_deed(("solve", 1))
            desk.do_deed(("back",))
            for text in lots:
                desk.do_deed(("say", say(text)))
            self.assertEqual(self.refused(TooMany, desk, ("solve", 1)), ())
            for _ in range(4):
                desk.do_deed(("say", say("not [ ?x = a ]")))
            self.assertEqual(self.refused(TooWide, desk, ("solve", 1)), ("cases",))

    def test_too_full_at_the_making(self):
        desk = desk_with("?x ?y = ?y ?x", "?z a = a ?z", room=1)
        self.assertEqual(self.refused(TooFull, desk, ("solve", 5)), ((),))
        self.assertEqual(self.refused(TooFull, desk, ("hands", 1, ())), ((),))

    def test_too_full_at_the_first_advance_and_later(self):
        whole = Solving(says(GOING), room=8)
        gone = 0
        while True:
            try:
                whole.advance()
            except TooFull as error:
                waiting = error.waiting
                break
            gone += 1
        self.assertGreater(gone, 2)
        desk = desk_with(GOING, room=8)
        self.assertEqual(desk.do_deed(("solve", 400)), (gone, None))
        self.assertEqual(self.refused(TooFull, desk, ("solve", 400)), (waiting,))
        self.assertEqual(engine_text(desk.going), engine_text(whole))
        desk = desk_with(GOING, room=8)
        for _ in range(gone):
            self.assertEqual(desk.do_deed(("solve", 1)), (1, None))
        self.assertEqual(self.refused(TooFull, desk, ("solve", 1)), (waiting,))
        self.assertEqual(self.refused(TooFull, desk, ("hands", 1, ())), (waiting,))
        roots = len(Solving(says(GOING)).net)
        desk = desk_with(GOING, room=roots)
        self.refused(TooFull, desk, ("solve", 1))
        self.assertIsNone(desk.going)

    def test_known_papers(self):
        desk = desk_with(GOING)
        first = desk.do_deed(("solve", 400))[1].paper
        desk.do_deed(("back",))
        self.assertEqual(desk.known, (first,))
        desk.do_deed(("say", say(GOING)))
        many, told = desk.do_deed(("solve", 400))
        # With the known paper no book is left to look at.
        self.assertEqual((many, told, desk.going.known), (0, Shut(first), first))
        self.assertEqual(desk.known, (first,))
        desk.do_deed(("back",))
        desk.do_deed(("say", say(SHUT[2])))
        second = desk.do_deed(("solve", 400))[1].paper
        self.assertEqual(desk.known, (join_papers(first, second),))
        self.assertIsNone(judge_shut(says(SHUT[2]), 2, Shut(second)))
        desk.do_deed(("say", say("?x in .*ab.*")))
        third = desk.do_deed(("solve", 400))[1].paper
        self.assertEqual(desk.known, (join_papers(first, second), third))
        self.assertNotEqual(third.deeds, first.deeds)
        desk.do_deed(("back",))
        desk.do_deed(("back",))
        desk.do_deed(("say", say(SHUT[3])))
        last = desk.do_deed(("solve", 400))[1].paper
        self.assertEqual(desk.known, (join_papers(join_papers(first, second), last), third))

    def test_forget(self):
        desk = desk_with(GOING)
        self.assertEqual(self.refused(NoPaper, desk, ("forget", 0)), (0,))
        first = desk.do_deed(("solve", 400))[1].paper
        desk.do_deed(("say", say("?x in .*ab.*")))
        second = desk.do_deed(("solve", 400))[1].paper
        self.assertEqual(desk.known, (first, second))
        for at in (2, 3, 10 ** 9 - 1):
            self.assertEqual(self.refused(NoPaper, desk, ("forget", at)), (at,))
        self.assertEqual(desk.do_deed(("forget", 0)), len(first))
        self.assertEqual((desk.known, desk.going, desk.saved), ((second,), None, None))
        desk.do_deed(("solve", 1))
        desk.do_deed(("cut",))
        self.assertEqual(desk.do_deed(("forget", 0)), len(second))
        self.assertEqual((desk.known, desk.going, desk.saved), ((), None, None))


class CutTest(DeskTest):
    def test_cut_and_go_on(self):
        for text, order in product((GOING, FILLED), ("least", (2, 1))):
            one, other = desk_with(text, order=order), desk_with(text, order=order)
            while True:
                many, told = one.do_deed(("solve", 2))
                listed = len(one.going.net)
                before = engine_text(one.going)
                self.assertEqual(one.do_deed(("cut",)), listed)
                self.assertIsNone(one.going)
                self.assertEqual(one.saved, before)
                self.assertEqual(one.do_deed(("go on",)), listed)
                self.assertIsNone(one.saved)
                self.assertEqual(engine_text(one.going), before)
                self.assertEqual(one.going.told, told)
                self.assertEqual(other.do_deed(("solve", 2)), (many, told))
                self.assertTrue(one == other)
                if told is not None:
                    break

    def test_with_a_known_paper(self):
        desk = desk_with(SHUT[2])
        desk.do_deed(("solve", 400))
        desk.do_deed(("back",))
        desk.do_deed(("say", say(GOING)))
        desk.do_deed(("solve", 2))
        known = desk.going.known
        self.assertEqual(known, desk.known[0])
        desk.do_deed(("cut",))
        # What is kept meanwhile changes nothing for the engine that was cut off.
        desk.do_deed(("hands", 1, ()))
        self.assertNotEqual(desk.known[0], known)
        desk.do_deed(("go on",))
        self.assertEqual(desk.going.known, known)
        self.assertEqual(desk.going.net.known, known.books)
        self.assertIsNone(judge_shut(says(GOING), 2, desk.do_deed(("solve", 400))[1]))

    def test_errors(self):
        desk = desk_with(GOING)
        self.assertEqual(self.refused(NoEngine, desk, ("cut",)), ())
        self.assertEqual(self.refused(NotCut, desk, ("go on",)), ())
        desk.do_deed(("solve", 1))
        self.assertEqual(self.refused(NotCut, desk, ("go on",)), ())
        desk.do_deed(("cut",))
        self.assertEqual(self.refused(IsCut, desk, ("cut",)), ())
        self.assertEqual(self.refused(IsCut, desk, ("solve", 1)), ())
        desk = desk_with(*["not [ ?x = a ]"] * 4)
        desk.saved = "cut"
        self.assertEqual(caught(IsCut, desk.do_deed, ("solve", 1)), ())


class HandsTest(DeskTest):
    def test_whatever_the_hands_do(self):
        draw = random.Random(167)
        for text in (GOING, FILLED, SHUT[2]):
            for many in (1, 2, 3, 6):
                for _ in range(4):
                    picks = [draw.randrange(4 * many) for _ in range(draw.randrange(61))]
                    desk = desk_with(text)
                    told = desk.do_deed(("hands", many, picks))
                    self.assertIs(type(told), type(solve(says(text))))
                    if isinstance(told, Shut):
                        self.assertIsNone(judge_shut(says(text), 2, told))
                        self.assertEqual(desk.known, (told.paper,))
                        self.assertEqual(len(told.paper), len(solve(says(text)).paper))
                    else:
                        self.assertIsNone(judge_filling(says(text), 2, told))
                        self.assertEqual(desk.known, ())
                    self.assertIsNone(desk.going)

    def listed(self, many, picks):
        """The books of the paper that hands come to, in their order."""
        return desk_with(TWO).do_deed(("hands", many, picks)).paper.books

    def test_each_act(self):
        plain = self.listed(1, ())
        self.assertEqual(plain, solve(says(TWO)).paper.books)
        # Hand 0 takes book 0 and hand 1 takes book 1; a report that is delivered at once comes ahead of a later one.
        backward = Solving(says(TWO))
        backward.net.look_at(1)
        backward.net.look_at(0)
        backward.net.run(1000)
        wanted = backward.refresh().paper.books
        self.assertNotEqual(wanted, plain)
        for picks in ((0, 1, 3, 2), (0, 1, 6, 3), (0, 1, 0, 1, 7, 6), (0, 1, 4, 0, 1, 3, 2), (8, 9, 11, 10), (16, 1, 3, 2)):
            self.assertEqual(self.listed(2, picks), wanted, picks)
        # Acts of a hand without a book and a take of one that has a book are left out, and so is what is dropped.
        for picks in ((1, 2, 3), (0, 0, 0), (0, 2, 1), (0, 2, 3)):
            self.assertEqual(self.listed(1, picks), plain)
        # What hand 0 has dropped hand 1 takes.
        self.assertEqual(self.listed(2, (0, 4, 1, 3)), plain)
        self.assertEqual(self.listed(2, (0, 1, 3)), wanted)

    def test_hands_that_work_to_the_end(self):
        for text in (TWO, FILLED):
            desk = desk_with(text)
            plain = desk_with(text).do_deed(("solve", 400))[1]
            self.assertEqual(desk.do_deed(("hands", 1, (0, 1) * 30)), plain)
            self.assertEqual(desk.do_deed(("hands", 1, (0, 1) * 30)), plain)

    def test_late_reports_come_in_the_order_of_writing(self):
        # Both hands write late, hand 1 first; hand 0 drops its book and its report is delivered all the same.
        told = self.listed(2, (0, 1, 7, 6, 4))
        other = Solving(says(TWO))
        other.net.look_at(1)
        other.net.look_at(0)
        other.net.run(1000)
        self.assertEqual(told, other.refresh().paper.books)

    def test_the_engine_stays(self):
        desk = desk_with(GOING)
        desk.do_deed(("solve", 2))
        going, before = desk.going, engine_text(desk.going)
        desk.do_deed(("hands", 2, (0, 1, 2, 3)))
        self.assertIs(desk.going, going)
        self.assertEqual(engine_text(going), before)
        desk.do_deed(("cut",))
        desk.do_deed(("hands", 2, (0, 1, 2, 3)))
        self.assertEqual((desk.going, desk.saved), (None, before))

    def test_ended_at_the_making(self):
        desk = desk_with("?x = ?x")
        self.assertEqual(desk.do_deed(("hands", 3, (0, 1, 2, 3, 4, 5))).names, ("?x",))

    def test_too_full(self):
        desk = desk_with(GOING, room=8)
        self.refused(TooFull, desk, ("hands", 1, ()))
        self.refused(TooFull, desk, ("hands", 1, (0, 1) * 30))
        desk.do_deed(("solve", 1))
        self.refused(TooFull, desk, ("hands", 2, (0, 1, 6, 7)))


class FollowsTest(DeskTest):
    def test_follows(self):
        desk = desk_with("?x a = a ?x", room=40, order="last")
        for text, kind in (("?x in a*", Shut), ("?x in aa*", Filling)):
            told = desk.do_deed(("follows", say(text)))
            self.assertIs(type(told), kind)
            self.assertEqual(told, follows(desk.said, say(text), 2, "last", room=40))
        # A paper of it is not kept, and the engine stays.
        self.assertEqual((desk.known, desk.going), ((), None))
        self.assertEqual(self.refused(BadSaying, desk, ("follows", None)), ("saying",))
        deep = say("?x = a")
        for _ in range(19):
            deep = ("not", deep)
        self.assertEqual(self.refused(BadSaying, desk, ("follows", deep)), ("deep",))
        self.assertEqual(self.refused(BadSaying, desk, ("follows", ("and", deep[1], None))), ("deep",))
        self.assertEqual(self.refused(BadSaying, desk, ("say", ("and", deep[1], None))), ("saying",))
        desk = desk_with(*["not [ ?x = a ]"] * 3)
        self.assertEqual(self.refused(TooWide, desk, ("follows", say("?x = a"))), ("cases",))
        desk = desk_with("?x ?y = ?y ?x", room=2)
        self.assertEqual(self.refused(TooFull, desk, ("follows", say("?x a = ?y ?y"))), ((),))


class ScriptTest(DeskTest):
    def setUp(self):
        self.script = script_of(SCRIPT)
        self.desk = Desk()
        self.assertEqual(self.desk.do_deed(("script", ("new", as_lists(self.script.statements)))), 3)

    def edit(self, *edit):
        return self.desk.do_deed(("script", edit))

    def test_new(self):
        self.assertEqual(self.desk.script, self.script)
        self.assertEqual(self.refused(BadScript, self.desk, ("script", ("new", [("stop",)]))), ("statement", (0,)))
        self.assertEqual(self.desk.script, self.script)
        self.assertEqual(self.edit("new", ()), 1)
        self.assertEqual(self.desk.script, Script(()))
        desk = Desk(1)
        self.assertEqual(self.refused(BadScript, desk, ("script", ("new", [("put", "?x", ("b",))]))), ("side", (0,)))

    def test_put_in(self):
        new = ("put", "?q", ("a",))
        for road, text in (((0,), "put ?q a , " + SCRIPT), ((3,), SCRIPT + " , put ?q a"),
                           ((2,), SCRIPT.replace("} , stop 99", "} , put ?q a , stop 99")),
                           ((1, 0, 0), SCRIPT.replace("{ stop 1", "{ put ?q a , stop 1")),
                           ((1, 0, 2), SCRIPT.replace("put ?y empty", "put ?y empty , put ?q a")),
                           ((1, 1, 0, 0, 0), SCRIPT.replace("{ }", "{ put ?q a }")),
                           ((1, 1, 0, 1, 1), SCRIPT.replace("read ?z", "read ?z , put ?q a")),
                           ((1, 1, 1), SCRIPT.replace("} , read ?x", "} , put ?q a , read ?x")),
                           ((1, 1, 2), SCRIPT.replace(", read ?x }", ", read ?x , put ?q a }"))):
            self.setUp()
            self.assertEqual(self.edit("put in", road, list(new)), 3)
            self.assertEqual(self.desk.script, script_of(text), road)
            # Taken out again, the script is the old one.
            self.assertEqual(self.edit("take out", road), 3)
            self.assertEqual(self.desk.script, self.script)

    def test_ways_are_told(self):
        self.assertEqual(self.edit("put in", (1,), ("if", ("alike", ("?x",), ()), (), ())), 6)
        self.assertEqual(self.edit("put in", (0,), ("stop", 1)), 1)

    def test_no_statement(self):
        for road in ((4,), (9, 0, 0), (0, 0, 0), (1, 2, 0), (1, 0), (1, 0, 3), (1, 1, 3), (1, 1, 0, 0, 1), (1, 1, 1, 0, 0), (1, 1, 0, 1)):
            self.assertEqual(self.refused(NoStatement, self.desk, ("script", ("put in", road, None))), (road,))
        for road in ((3,), (4,), (1, 0, 2), (1, 1, 0, 0, 0), (1, 1, 2), (0, 0, 0), (1, 0)):
            self.assertEqual(self.refused(NoStatement, self.desk, ("script", ("take out", list(road)))), (road,))

    def test_errors_of_the_new_script(self):
        self.assertEqual(self.refused(BadScript, self.desk, ("script", ("put in", (1, 0, 0), None))), ("statement", (1, 0, 0)))
        self.assertEqual(self.refused(BadScript, self.desk, ("script", ("put in", (0,), ("put", "?q", ("?x",))))), ("unset", (0,)))
        self.assertEqual(self.refused(BadScript, self.desk, ("script", ("take out", (0,)))), ("unset", (0,)))
        self.edit("put in", (0,), ("read", "?x"))
        self.assertEqual(self.refused(BadScript, self.desk, ("script", ("put in", (0,), ("read", "?x")))), ("reads", ()))

    def test_turn(self):
        for road in ((1,), (1, 1, 0)):
            self.assertEqual(self.edit("turn", road), 3)
            self.assertEqual(self.desk.script, turned_at(self.script, road))
            self.setUp()
        self.edit("turn", (1, 1, 0))
        self.assertEqual(self.desk.script, turned_at(self.script, (1, 1, 0)))
        for road in ((0,), (2,), (3,), (1, 1, 1), (1, 0)):
            self.assertEqual(self.refused(NoIf, self.desk, ("script", ("turn", road))), (road,))

    def test_no_script(self):
        desk = Desk()
        for edit in (("put in", (0,), None), ("take out", (9,)), ("turn", (9,))):
            self.assertEqual(self.refused(NoScript, desk, ("script", edit)), ())
        for deed in (("way", (7,) * 0), ("stops", 1), ("same", None), ("same", ())):
            self.assertEqual(self.refused(NoScript, desk, deed), ())

    def test_way_stops_and_same(self):
        for turns in ((1,), (0, 0), (0, 1)):
            self.assertEqual(self.desk.do_deed(("way", turns)), input_for(self.script, turns))
        self.assertEqual(self.refused(NoWay, self.desk, ("way", (1, 1))), ((1, 1),))
        for stop in (1, 99, None, 2):
            self.assertEqual(self.desk.do_deed(("stops", stop)), meet_goals(stop_goals(self.script, stop), 2))
        self.assertEqual(self.desk.do_deed(("stops", None)), Never(()))
        for text in (SCRIPT, "read ?x , if ?x in a { stop 1 } else { stop 99 }", "stop 1"):
            other = script_of(text)
            self.assertEqual(self.desk.do_deed(("same", other.statements)), told_apart(self.script, other))
        self.assertEqual(self.refused(BadScript, self.desk, ("same", None)), ("block", ()))
        self.assertEqual((self.desk.known, self.desk.going), ((), None))

    def test_the_room_of_the_desk(self):
        desk = Desk(room=5)
        desk.do_deed(("script", ("new", script_of("read ?x , read ?y , if ?x a ?y a = a b ?y { stop 1 } else { }").statements)))
        self.refused(TooFull, desk, ("way", (1,)))
        self.refused(TooFull, desk, ("stops", 1))
        self.refused(TooFull, desk, ("same", ()))

    def test_sayings_and_scripts_do_not_touch_each_other(self):
        self.desk.do_deed(("say", say(GOING)))
        self.desk.do_deed(("solve", 1))
        going = self.desk.going
        self.edit("turn", (1,))
        self.desk.do_deed(("way", (0,)))
        self.assertIs(self.desk.going, going)
        self.desk.do_deed(("back",))
        self.assertEqual(self.desk.script, turned_at(self.script, (1,)))


class TrialTest(DeskTest):
    def test_trial_is_a_result(self):
        check_result(self, Trial, ["tolds", "refused"])

    def test_the_desk_stays(self):
        for text, cut in product((GOING, FILLED), (False, True)):
            desk = desk_with(text)
            desk.do_deed(("solve", 2))
            if cut:
                desk.do_deed(("cut",))
            before = state(desk)
            deeds = [("go on",)] if cut else []
            deeds += [("solve", 400), ["say", as_lists(say("?x = a"))], ("solve", 1), ("forget", 0), ("cut",)]
            other = desk_with(text)
            other.do_deed(("solve", 2))
            if cut:
                other.do_deed(("cut",))
            tolds = []
            for deed in deeds:
                try:
                    tolds.append(other.do_deed(deed))
                except PressError:
                    break
            refused = len(tolds) if len(tolds) < len(deeds) else None
            self.assertEqual(desk.trial_deeds(deeds), Trial(tuple(tolds), refused))
            self.assertEqual(state(desk), before)
            self.assertEqual(desk.trial_deeds(tuple(deeds)), Trial(tuple(tolds), refused))

    def test_refused_and_not(self):
        desk = desk_with(GOING)
        before = state(desk)
        self.assertEqual(desk.trial_deeds([]), Trial((), None))
        self.assertEqual(desk.trial_deeds([("cut",)]), Trial((), 0))
        self.assertEqual(desk.trial_deeds([None]), Trial((), 0))
        self.assertEqual(desk.trial_deeds([("back",), ("back",), ("back",)]), Trial((say(GOING),), 1))
        told = desk.trial_deeds([("back",), ("say", say("?x = a")), ("solve", 9)])
        self.assertEqual(told, Trial((say(GOING), 1, desk_with("?x = a").do_deed(("solve", 9))), None))
        self.assertEqual(state(desk), before)

    def test_with_a_known_paper(self):
        desk = desk_with(GOING)
        told = desk.do_deed(("solve", 400))[1]
        desk.do_deed(("back",))
        deeds = [("say", say(GOING)), ("solve", 400), ("forget", 0), ("solve", 1)]
        trial = desk.trial_deeds(deeds)
        self.assertEqual(trial.tolds[1:], ((0, told), len(told.paper), (1, None)))
        self.assertEqual(desk.known, (told.paper,))

    def test_what_a_trial_tells_the_desk_tells(self):
        desk = desk_with(GOING)
        desk.do_deed(("solve", 3))
        desk.do_deed(("script", ("new", script_of(SCRIPT).statements)))
        deeds = [("solve", 2), ("cut",), ("go on",), ("solve", 400), ("hands", 2, (0, 1, 2)), ("stops", 1), ("script", ("turn", (1,)))]
        trial = desk.trial_deeds(deeds)
        self.assertEqual(trial.tolds, tuple(desk.do_deed(deed) for deed in deeds))


def random_deed(draw, names=("?x", "?y")):
    word = draw.choice(("say", "say", "back", "solve", "solve", "solve", "cut", "go on", "forget", "hands", "follows", "script", "way",
                        "stops", "same"))
    if word in ("say", "follows"):
        return (word, random_saying(draw, names, draw.randrange(2), "ab"))
    if word == "solve":
        return (word, draw.choice((1, 2, 5, 40)))
    if word == "forget":
        return (word, draw.randrange(3))
    if word == "hands":
        return (word, draw.randrange(1, 4), tuple(draw.randrange(12) for _ in range(draw.randrange(20))))
    if word == "way":
        return (word, tuple(draw.randrange(2) for _ in range(draw.randrange(4))))
    if word == "stops":
        return (word, draw.choice((None, 0, 1, 2)))
    start = (("read", "?x"), ("read", "?y"))
    if word == "same":
        return (word, start + tuple(random_block(draw, 2, 3)))
    if word == "script":
        edit = draw.choice(("new", "put in", "take out", "turn"))
        if edit == "new":
            return (word, (edit, start + tuple(random_block(draw, 2, 3))))
        road = tuple(draw.randrange(2 if place & 1 else 4) for place in range(draw.choice((1, 1, 3))))
        return (word, (edit, road, draw.choice(random_block(draw, 1, 1) or [("stop", 1)])) if edit == "put in" else (edit, road))
    return (word,)


class StoryTest(DeskTest):
    def check_told(self, desk, told, ends):
        names = sorted({name for saying in desk.said for name in names_of(saying)})
        if isinstance(told, Filling):
            self.assertEqual(told.names, tuple(names))
            self.assertIsNone(judge_filling(desk.said, 2, told))
        else:
            self.assertIsNone(judge_shut(desk.said, 2, told))
            for chosen in product(texts_up_to("ab", 1), repeat=len(names)):
                texts = dict(zip(names, chosen))
                self.assertFalse(all(saying_holds(saying, texts) for saying in desk.said))
        self.assertIs(ends.setdefault(desk.said, type(told)), type(told))

    def check_known(self, desk):
        self.assertEqual(len({paper.deeds for paper in desk.known}), len(desk.known))
        _, lot = lot_for(desk.said, 2)
        for paper in desk.known:
            if paper.deeds == tuple(deed for deed, _ in lot.table):
                self.assertIsNone(judge_list(paper.books, paper, lot))

    def do(self, desk, deed, ends, tries):
        """Does a deed, after a trial of it if this is asked; what is told is judged."""
        before = state(desk)
        trial = desk.trial_deeds([deed, ("say", say("?x = a")), ("solve", 3)]) if tries else None
        self.assertEqual(state(desk), before)
        try:
            told = desk.do_deed(deed)
        except PressError:
            self.assertEqual(state(desk), before)
            self.assertIn(trial, (None, Trial((), 0)))
            return False
        if trial is not None:
            self.assertEqual(trial.tolds[:1], (told,))
        if deed[0] == "hands" or (deed[0] == "solve" and told[1] is not None):
            self.check_told(desk, told if deed[0] == "hands" else told[1], ends)
        return True

    def test_stories_of_drawn_deeds(self):
        draw = random.Random(1612)
        done = {}
        for _ in range(25):
            desk = Desk(2, draw.choice((6, 15)), draw.choice(("first", "last", "least", (3, 1))))
            ends = {}
            for _ in range(30):
                deed = random_deed(draw)
                if self.do(desk, deed, ends, draw.random() < 0.2):
                    done[deed[0]] = done.get(deed[0], 0) + 1
                if draw.random() < 0.1:
                    again = taken_up(put_away(desk))
                    self.assertEqual((again.said, again.script, again.known), (desk.said, desk.script, ()))
                    desk = again
            try:
                self.check_known(desk)
            except TooMany:
                pass
        self.assertEqual(len(done), 12)


if __name__ == "__main__":
    unittest.main()
