"""Deeds and desks as texts [16.10, 16.11]."""

import random
import unittest

from pressedwords.desk import Desk, engine_text
from pressedwords.deskdeeds import check_deed
from pressedwords.errors import BadLetters, BadText, PressError
from pressedwords.scripts import read_script
from pressedwords.stories import print_deeds, put_away, read_deeds, taken_up
from tests.helpers import as_lists, caught, holds_list
from tests.test_desk import desk_with, random_deed, state
from tests.test_scripts import ASK, deep_saying, nested
from tests.test_solving import GOING, say

BLOCK = read_script("letters 2 : read ?x , if ?x = a { stop 1 , put ?y empty } else { }").statements
LINES = (
    (("say", say("not [ ?x in a* ]")), "say not [ ?x in a* ]"), (("back",), "back"), (("solve", 1), "solve 1"),
    (("solve", 400), "solve 400"), (("cut",), "cut"), (("go on",), "go on"), (("forget", 10 ** 9 - 1), "forget 999999999"),
    (("hands", 6, ()), "hands 6"), (("hands", 1, (0, 12, 0)), "hands 1 0 12 0"), (("follows", say("?x = empty")), "follows ?x = empty"),
    (("script", ("new", ())), "script new"),
    (("script", ("new", BLOCK)), "script new read ?x , if ?x = a { stop 1 , put ?y empty } else { }"),
    (("script", ("put in", (0, 1, 2), ("stop", 99))), "script put in 0 1 2 : stop 99"),
    (("script", ("put in", (3,), BLOCK[1])), "script put in 3 : if ?x = a { stop 1 , put ?y empty } else { }"),
    (("script", ("take out", (1, 0, 2))), "script take out 1 0 2"), (("script", ("turn", (7,))), "script turn 7"),
    (("way", ()), "way"), (("way", (0, 1, 1)), "way 0 1 1"), (("stops", None), "stops none"), (("stops", 0), "stops 0"),
    (("same", ()), "same"), (("same", (("stop", 3), ("put", "?q", ("?z", "b")))), "same stop 3 , put ?q ?z b"),
)


class DeedsTest(unittest.TestCase):
    def test_each_form(self):
        for deed, line in LINES:
            self.assertEqual(print_deeds([deed]), line)
            told = read_deeds(line, 2)
            self.assertEqual(told, (deed,))
            self.assertFalse(holds_list(told))
            self.assertEqual(check_deed(told[0]), deed)
        deeds = tuple(deed for deed, _ in LINES)
        text = "\n".join(line for _, line in LINES)
        self.assertEqual(print_deeds(deeds), text)
        self.assertEqual(print_deeds(list(deeds)), text)
        self.assertEqual(read_deeds(text, 2), deeds)
        self.assertEqual(read_deeds(text, 3), deeds)

    def test_lists_for_tuples(self):
        for deed, line in LINES:
            if deed[0] not in ("say", "follows"):
                self.assertEqual(print_deeds([as_lists(deed)]), line)

    def test_three_letters(self):
        for line in ("say c = ?x", "same put ?x c , if ?x in c* { put ?y a c } else { }", "script put in 0 : put ?x c"):
            self.assertEqual(print_deeds(read_deeds(line, 3)), line)
            self.assertEqual(caught(BadText, read_deeds, line, 2), (0, 0))

    def test_no_deeds(self):
        self.assertEqual((print_deeds(()), read_deeds("", 1)), ("", ()))

    def test_statements_that_no_script_has(self):
        for block in ([("put", "?y", ("?x",))], [("read", "?x")] * 30, [("put", "?x", ("?x",) * 20)], [("if", ASK, (), ())] * 20,
                      nested(4, [("read", "?x")])):
            for deed in (("same", block), ("script", ("new", block))):
                told = read_deeds(print_deeds([deed]), 2)
                self.assertEqual(print_deeds(told), print_deeds([deed]))
                self.assertFalse(holds_list(told))
            self.assertEqual(as_lists(read_deeds(print_deeds([("same", block)]), 2)[0][1]), as_lists(block))

    def test_drawn_deeds(self):
        draw = random.Random(1610)
        for _ in range(100):
            deeds = tuple(random_deed(draw) for _ in range(5))
            self.assertEqual(read_deeds(print_deeds(deeds), 2), deeds)

    def test_letters_come_first(self):
        for letters in (0, 4, True, None):
            for text in ("", "no"):
                self.assertEqual(caught(BadLetters, read_deeds, text, letters), ())

    def test_the_line_that_is_wrong(self):
        wrong = """say|say |say a|say c = c|say a = a |say  a = a|say a in (a)|says a = a|Say a = a|back 1|back |cut 0|go|goon|go  on|go on 1
            solve|solve 0|solve 401|solve 01|solve -1|solve 1 2|solve none|solve a|forget|forget 1000000000|forget 1 1|hands|hands 0|hands 7
            hands 1 1000000000|hands 1 a|hands 1 |follows|follows a|script|script |script old|script new |script new stop 100
            script new stop|script new read x|script new stop 1 ,|script new , stop 1|script new put ?x a in a|script new {|script new }
            script put in 0|script put in : stop 1|script put in 0 :|script put in 0 : |script put in 0 : stop 1 , stop 2|script put 0 : stop 1
            script put in 0 1 2 3 4 5 6 7 8 9 : stop 1|script put in 0: stop 1|script take out|script take 0|script take out 0 :|script turn
            script turn x|script turn 0 1 2 3 4 5 6 7 8 9|way 2|way 0 |way -1|way none|stops|stops 100|stops None|stops none none|stops 1 1
            same |same stop|same stop 1 , |same put ?x c|same if ?x in (a) { } else { }|none||  |# back""".split("|")
        lines = [line for text in wrong for line in (text.split("\n            ") if "\n" in text else [text])]
        lines += ["hands 1" + " 0" * 61, "way" + " 0" * 25, "same " + "if a = a { " * 5 + "} else { } " * 4 + "} else { }",
                  "same " + "if a = a { " * 3000, "same if " + "not [ " * 10 + "a = a" + " ]" * 10 + " { } else { }",
                  "say " + "not [ " * 20 + "a = a" + " ]" * 20, "back\r", "\tback"]
        for line in lines:
            if line:
                self.assertEqual(caught(BadText, read_deeds, line, 2), (0, 0), line[:60])
            self.assertEqual(caught(BadText, read_deeds, "back\nsolve 3\n" + line, 2), (2, 0), line[:60])
            self.assertEqual(caught(BadText, read_deeds, "cut\n" + line + "\nno", 2), (1, 0), line[:60])
        self.assertEqual(caught(BadText, read_deeds, "back\n", 2), (1, 0))
        self.assertEqual(caught(BadText, read_deeds, "\nback", 2), (0, 0))
        self.assertEqual(caught(BadText, read_deeds, "back\nsay ?x = b", 1), (1, 0))
        self.assertEqual(caught(BadText, read_deeds, "same put ?x b", 1), (0, 0))

    def test_depths_that_may_stand(self):
        for deed in (("same", (("if", deep_saying(10), (), ()),)), ("say", deep_saying(20)), ("hands", 1, (0,) * 60), ("way", (0,) * 24),
                     ("script", ("turn", (0,) * 9))):
            self.assertEqual(read_deeds(print_deeds([deed]), 2), (deed,))


class PutAwayTest(unittest.TestCase):
    def check(self, desk):
        text = put_away(desk)
        self.assertIs(type(text), str)
        told = taken_up(text)
        self.assertIs(type(told), Desk)
        saved = desk.saved if desk.going is None else engine_text(desk.going)
        self.assertEqual(state(told), (desk.letters, desk.room, desk.order, desk.said, desk.script, (), None, saved, ()))
        self.assertIsNone(told.going)
        return told

    def test_small_ones(self):
        self.check(Desk())
        self.check(Desk(1, 10 ** 6, "least"))
        self.check(Desk(3, 1, (0, 10 ** 6, 7)))
        self.check(Desk(3, 1, (5,)))
        self.check(desk_with("?x = a", "not [ ?x in a* ]"))
        desk = Desk()
        desk.do_deed(("script", ("new", ())))
        self.check(desk)
        desk.do_deed(("script", ("new", BLOCK)))
        self.check(desk)
        desk.do_deed(("solve", 1))
        self.check(desk)

    def test_engines_go_on(self):
        desk = desk_with(GOING)
        desk.do_deed(("hands", 1, ()))
        desk.do_deed(("forget", 0))
        for steps in (1, 2, 40):
            desk.do_deed(("solve", steps))
            told = self.check(desk)
            told.do_deed(("go on",))
            self.assertEqual(engine_text(told.going), engine_text(desk.going))
            self.assertEqual(told.do_deed(("solve", 400))[1], desk.trial_deeds([("solve", 400)]).tolds[0][1])
        desk.do_deed(("cut",))
        self.check(desk)

    def test_an_engine_with_a_known_paper(self):
        desk = desk_with("?x ?x ?x = b ?x ?y a")
        desk.do_deed(("solve", 400))
        desk.do_deed(("back",))
        desk.do_deed(("say", say(GOING)))
        desk.do_deed(("solve", 1))
        told = self.check(desk)
        told.do_deed(("go on",))
        self.assertEqual(told.going.known, desk.going.known)
        self.assertIsNotNone(told.going.known)

    def test_at_every_place_of_a_story(self):
        draw = random.Random(1611)
        for _ in range(10):
            desk = Desk(2, draw.choice((6, 15)), draw.choice(("first", (2, 1))))
            for _ in range(25):
                try:
                    desk.do_deed(random_deed(draw))
                except PressError:
                    pass
                told = self.check(desk)
                if told.saved is not None and draw.random() < 0.3:
                    told.do_deed(("go on",))
                    desk = told


if __name__ == "__main__":
    unittest.main()
