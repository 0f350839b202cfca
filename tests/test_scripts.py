"""Scripts [15.1 to 15.5]."""

import random
import unittest

from pressedwords.errors import BadLetters, BadScript, BadText, NoIf, ShortInputs
from pressedwords.scripts import Run, Script, read_script, run_script, script_text, turned_at
from pressedwords.sayings import saying_holds, side_text
from pressedwords.sayingtext import read_saying
from tests.helpers import Alien, as_lists, caught, check_result, holds_list
from tests.test_fillings import random_saying, random_side

READ = ("read", "?x")
ASK = ("alike", ("?x",), ("a",))
TEXT = ("letters 2 : read ?x , put ?y ?x b , if all [ ?x = a ; not [ ?y in (a|b)* ] ] { stop 1 , put ?y empty } "
        "else { if ?x = empty { } else { read ?z } , read ?x } , stop 99")


def say(text):
    return read_saying(text, 3)


def statements(text, letters=2):
    """Statements that may have faults, from their printed form."""
    return read_script(f"letters {letters} : " + text).statements


def fault(block, letters=2):
    return caught(BadScript, Script, block, letters)


def deep_saying(depth):
    saying = ASK
    for _ in range(depth - 1):
        saying = ("not", saying)
    return saying


def nested(many, inner):
    """Ifs within each other, so many, with some statements inside."""
    for _ in range(many):
        inner = [("if", ASK, inner, [])]
    return inner


class ScriptTest(unittest.TestCase):
    def test_tuples_of_lists(self):
        block = [["read", "?x"], ["if", ["in", ["?x"], ["any"]], [["put", "?y", ["a", "?x"]]], []], ("stop", 3)]
        script = Script(block)
        told = (READ, ("if", ("in", ("?x",), ("any",)), (("put", "?y", ("a", "?x")),), ()), ("stop", 3))
        self.assertEqual((script.statements, script.letters), (told, 2))
        self.assertFalse(holds_list(script.statements))
        block[1][2].append(None)
        self.assertEqual(script.statements, told)
        self.assertEqual(Script(told, 3).letters, 3)

    def test_length_and_iteration(self):
        script = read_script(TEXT)
        self.assertEqual(len(script), 9)
        self.assertEqual(list(script), list(script.statements))
        self.assertEqual(len(script.statements), 4)
        self.assertEqual((len(Script(())), list(Script([]))), (0, []))

    def test_equality(self):
        script = read_script(TEXT)
        self.assertTrue(script == Script(as_lists(script.statements)))
        for other in (Script(script.statements, 3), Script(script.statements[:3]), None, script.statements,
                      Alien(statements=script.statements, letters=2)):
            self.assertFalse(script == other)
            self.assertTrue(script != other)

    def test_run_is_a_result(self):
        check_result(self, Run, ["turns", "used", "ends", "stop"])


class FaultTest(unittest.TestCase):
    def test_letters_come_first(self):
        for letters in (0, 4, True, None, "2"):
            self.assertEqual(caught(BadLetters, Script, None, letters), ())

    def test_block(self):
        for wrong in (None, 1, "read", {}, iter(())):
            self.assertEqual(fault(wrong), ("block", ()))
            self.assertEqual(fault([READ, ("if", ASK, wrong, None)]), ("block", (1, 0)))
            self.assertEqual(fault([READ, ("if", ASK, [], wrong)]), ("block", (1, 1)))
            self.assertEqual(fault([READ, ("if", ASK, [("stop", 1), ("if", ASK, (), wrong)], None)]), ("block", (1, 0, 1, 1)))

    def test_statement(self):
        for wrong in (None, (), "read ?x", ("reads", "?x"), ("read",), ("read", "?x", 1), ("put", "?x"), ("stop",), ("if", ASK, ()),
                      ("if", ASK, (), (), ()), (1, 2), ([], "?x"), {"read": 2}):
            self.assertEqual(fault([READ, wrong, None]), ("statement", (1,)), wrong)
            self.assertEqual(fault([READ, ("if", ASK, [], [READ, wrong])]), ("statement", (1, 1, 1)), wrong)

    def test_name(self):
        for wrong in ("x", "?", "?1", "?abcdefghi", "?A", 1, None, ("?x",), "a"):
            self.assertEqual(fault([("read", wrong)]), ("name", (0,)))
            self.assertEqual(fault([READ, ("put", wrong, None)]), ("name", (1,)))

    def test_side_and_saying(self):
        for wrong in (None, "a", ("c",), ("?1",), ("ab",), {"a"}):
            self.assertEqual(fault([READ, ("put", "?y", wrong)]), ("side", (1,)))
            self.assertEqual(fault([READ, ("if", ("alike", wrong, ("?q",)), None, None)]), ("saying", (1,)))
        for wrong in (None, (), ("alike", ()), ("in", (), ("letter", "c")), ("in", (), ()), ("nor", ASK), deep_saying(21), deep_saying(11)):
            self.assertEqual(fault([READ, ("if", wrong, None, None)]), ("saying", (1,)))
        Script([READ, ("if", deep_saying(10), (), ())])
        Script([("put", "?y", ("c",))], 3)

    def test_number(self):
        for wrong in (-1, 100, True, None, "1", (1,)):
            self.assertEqual(fault([("stop", wrong)]), ("number", (0,)))
        Script([("stop", 0)])
        Script([("stop", 99)])

    def test_unset(self):
        for block, road in (([("put", "?y", ("?x",))], (0,)), ([("if", ASK, None, None)], (0,)),
                            ([("put", "?x", ("?x",)), READ], (0,)),
                            ([READ, ("if", ASK, [("read", "?y")], []), ("put", "?z", ("?y",))], (2,)),
                            ([READ, ("if", ASK, [], [("read", "?y")]), ("if", ("alike", ("?y",), ()), (), ())], (2,)),
                            ([READ, ("if", ASK, [("read", "?y")], [("put", "?z", ("?y",))])], (1, 1, 0)),
                            ([READ, ("if", ASK, [("if", ASK, [("read", "?y")], []), ("put", "?y", ("?y",))], [])], (1, 0, 1)),
                            ([READ, ("if", ("and", ASK, ("alike", (), ("a", "?q"))), None, None)], (1,))):
            self.assertEqual(fault(block), ("unset", road))

    def test_set_on_every_way_that_comes(self):
        for block in ([READ, ("if", ASK, [("read", "?y")], [("put", "?y", ())]), ("put", "?z", ("?y",))],
                      [READ, ("if", ASK, [("read", "?y")], [("stop", 1)]), ("put", "?z", ("?y",))],
                      [READ, ("if", ASK, [("stop", 1)], [("read", "?y")]), ("put", "?z", ("?y",))],
                      [("stop", 1), ("put", "?z", ("?y",)), ("if", ("alike", ("?q",), ()), [("put", "?z", ("?y",))], [])],
                      [READ, ("if", ASK, [("stop", 1)], [("stop", 2)]), ("put", "?z", ("?y",))],
                      [READ, ("if", ASK, [("stop", 1), ("put", "?z", ("?y",))], [])]):
            Script(block)
        # Behind an if of which one block stops, the names of the other one alone count.
        self.assertEqual(fault([READ, ("if", ASK, [], [("read", "?q"), ("stop", 1)]), ("put", "?z", ("?q",))]), ("unset", (2,)))
        self.assertEqual(fault([READ, ("if", ASK, [("read", "?q"), ("stop", 1)], []), ("put", "?z", ("?q",))]), ("unset", (2,)))
        self.assertEqual(fault([READ, ("if", ASK, [("stop", 1), ("read", "?q")], [("put", "?z", ("?q",))])]), ("unset", (1, 1, 0)))

    def test_deep(self):
        Script([READ] + nested(4, [READ]))
        self.assertEqual(fault([READ] + nested(5, None)), ("deep", (1, 0, 0, 0, 0, 0, 0, 0, 0)))
        self.assertEqual(fault([("read", "?y")] + nested(5, [READ])), ("unset", (1,)))
        self.assertEqual(fault([READ] + nested(4, [("if", ("alike", ("?q",), ()), None, None)])), ("unset", (1,) + (0,) * 8))
        self.assertEqual(fault([READ] + nested(4, [("if", None, None, None)])), ("saying", (1,) + (0,) * 8))
        block = []
        block.append(("if", ("alike", (), ()), block, block))
        self.assertEqual(fault(block), ("deep", (0,) * 9))

    def test_the_first_fault_in_the_order_of_the_text(self):
        self.assertEqual(fault([READ, ("if", ASK, [("stop", 100)], None), None]), ("number", (1, 0, 0)))
        self.assertEqual(fault([READ, ("if", ASK, [], [("read", 1)]), None]), ("name", (1, 1, 0)))
        self.assertEqual(fault([READ, ("if", ASK, [], []), None]), ("statement", (2,)))
        self.assertEqual(fault([("put", 1, 2)]), ("name", (0,)))

    def test_many(self):
        Script([READ] + [("put", "?y", ())] * 23)
        self.assertEqual(fault([READ] + [("put", "?y", ())] * 24), ("many", ()))
        self.assertEqual(fault([("stop", 1)] + [READ] * 24), ("many", ()))
        inner = [("if", ASK, [("put", "?y", ())] * 11, [("put", "?y", ())] * 11)]
        Script([READ] + inner)
        self.assertEqual(fault([READ, READ] + inner), ("many", ()))
        self.assertEqual(fault([READ] * 24 + [None]), ("statement", (24,)))

    def test_ways(self):
        four = [("if", ASK, [], [])] * 4
        Script([READ] + four)
        self.assertEqual(fault([READ] + four + [("if", ASK, [("stop", 1)], [])]), ("ways", ()))
        self.assertEqual(fault([READ] + four + four), ("ways", ()))
        Script([READ] + four + [("stop", 1)] + four)
        stops = [("if", ASK, [("stop", at)], []) for at in range(15)]
        Script([READ] + stops[:10])
        self.assertEqual(fault([READ] + stops[:8] + four), ("ways", ()))
        self.assertEqual(fault([READ] + stops[:10] + [("if", ASK, [], [])] * 3), ("ways", ()))
        Script([READ] + stops[:8] + four[:3])
        Script([READ] + stops[:11])
        # 23 statements behind the first one: many comes ahead of ways.
        self.assertEqual(fault([READ] + [("if", ASK, [], [])] * 23), ("ways", ()))
        self.assertEqual(fault([READ] + [("if", ASK, [], [])] * 24), ("many", ()))

    def test_reads(self):
        Script([READ] * 4)
        self.assertEqual(fault([READ] * 5), ("reads", ()))
        Script([READ, ("if", ASK, [READ] * 3, [READ] * 3)])
        self.assertEqual(fault([READ, ("if", ASK, [], [READ] * 3), READ]), ("reads", ()))
        self.assertEqual(fault([READ, ("if", ASK, [READ] * 3, []), READ]), ("reads", ()))
        Script([READ, ("if", ASK, [READ] * 3 + [("stop", 1)], []), READ])
        self.assertEqual(fault([READ, ("if", ASK, [READ] * 4 + [("stop", 1)], []), READ]), ("reads", ()))
        Script([READ] * 4 + [("stop", 1), READ])

    def test_wide(self):
        twelve = ("a",) * 12
        Script([READ, ("put", "?y", twelve), ("if", ("alike", ("?y",), twelve), [], [])])
        self.assertEqual(fault([("put", "?y", twelve + ("a",))]), ("wide", ()))
        for sides in ((twelve + ("a",), ("b",)), (("b",), twelve + ("a",))):
            self.assertEqual(fault([("if", ("alike",) + sides, [], [])]), ("wide", ()))
        self.assertEqual(fault([READ, ("put", "?y", twelve), ("put", "?z", ("?y", "?x"))]), ("wide", ()))
        self.assertEqual(fault([READ, ("put", "?y", twelve), ("if", ("in", ("?y", "?x"), ("any",)), [], [])]), ("wide", ()))
        self.assertEqual(fault([READ, ("put", "?y", twelve), ("if", ("not", ("or", ASK, ("alike", ("b", "?y"), ()))), [], [])]), ("wide", ()))
        Script([READ, ("put", "?y", twelve), ("read", "?y"), ("put", "?y", ("?y",) * 12)])
        doubling = [("put", "?x", ("?x", "?x"))]
        Script([READ] + doubling * 3)
        self.assertEqual(fault([READ] + doubling * 4), ("wide", ()))
        self.assertEqual(fault([READ] + [("put", "?x", ("?x",) * 12)] * 23), ("wide", ()))
        # On one way alone it is too wide.
        self.assertEqual(fault([READ, ("put", "?y", ()), ("if", ASK, [], [("put", "?y", twelve)]), ("put", "?y", ("?y", "a"))]), ("wide", ()))
        Script([READ, ("put", "?y", ()), ("if", ASK, [], [("put", "?y", twelve), ("stop", 1)]), ("put", "?y", ("?y", "a"))])
        Script([("stop", 1), ("put", "?y", twelve * 2)])
        self.assertEqual(fault([READ] * 5 + [("put", "?y", twelve * 2)]), ("reads", ()))


def plain_run(block, texts, inputs, told):
    """Runs a block plainly; told gathers the turns, the inputs used and the stop. True if the run goes on behind it."""
    for statement in block:
        if statement[0] == "stop":
            told["stop"] = statement[1]
            return False
        if statement[0] == "read":
            texts[statement[1]] = inputs[told["used"]]
            told["used"] += 1
        elif statement[0] == "put":
            texts[statement[1]] = side_text(statement[2], texts)
        else:
            truth = saying_holds(statement[1], texts)
            told["turns"].append(int(truth))
            if not plain_run(statement[2 if truth else 3], texts, inputs, told):
                return False
    return True


def random_block(draw, depth, many, names=("?x", "?y"), alphabet="ab"):
    block = []
    for _ in range(draw.randrange(many + 1)):
        word = draw.choice(("read", "put", "put", "stop", "if", "if") if depth else ("read", "put", "stop"))
        if word == "read":
            block.append((word, draw.choice(names)))
        elif word == "put":
            block.append((word, draw.choice(names), random_side(draw, names, 2, alphabet)))
        elif word == "stop":
            block.append((word, draw.randrange(3)))
        else:
            block.append((word, random_saying(draw, names, draw.randrange(2), alphabet),
                          tuple(random_block(draw, depth - 1, 2, names, alphabet)),
                          tuple(random_block(draw, depth - 1, 2, names, alphabet))))
    return block


def random_script(draw, many=4, letters=2):
    alphabet = "abc"[:letters]
    while True:
        try:
            return Script([("read", "?x"), ("put", "?y", ("?x", "a"))] + random_block(draw, 2, many, ("?x", "?y"), alphabet), letters)
        except BadScript:
            pass


class RunTest(unittest.TestCase):
    def test_example(self):
        script = read_script(TEXT)
        self.assertEqual(run_script(Script(script.statements[:2]), ["a", "b"]), Run((), 1, (("?x", "a"), ("?y", "ab")), None))
        self.assertEqual(run_script(script, ["", "b"]), Run((0, 1), 2, (("?x", "b"), ("?y", "b")), 99))
        self.assertEqual(run_script(script, ["b", "ab", "", "a"]), Run((0, 0), 3, (("?x", ""), ("?y", "bb"), ("?z", "ab")), 99))

    def test_stops(self):
        script = Script([READ, ("if", ASK, [("stop", 7), READ], []), ("put", "?y", ("b", "?x", "?x"))])
        self.assertEqual(run_script(script, ("a",)), Run((1,), 1, (("?x", "a"),), 7))
        self.assertEqual(run_script(script, ("ab", "b")), Run((0,), 1, (("?x", "ab"), ("?y", "babab")), None))
        self.assertEqual(run_script(Script(()), ()), Run((), 0, (), None))
        self.assertEqual(run_script(Script([("stop", 0)]), ()), Run((), 0, (), 0))

    def test_a_name_that_is_set_again(self):
        script = Script([READ, ("put", "?y", ("?x",)), READ, ("put", "?x", ("?x", "?x"))])
        self.assertEqual(run_script(script, ("a", "b")).ends, (("?x", "bb"), ("?y", "a")))

    def test_short_inputs(self):
        script = Script([READ, ("if", ASK, [READ], [READ, READ])])
        self.assertEqual(caught(ShortInputs, run_script, script, ()), (0,))
        self.assertEqual(caught(ShortInputs, run_script, script, ["a"]), (1,))
        self.assertEqual(caught(ShortInputs, run_script, script, ("b", "a")), (2,))
        self.assertEqual(run_script(script, ("a", "b")).used, 2)
        self.assertEqual(run_script(script, ("b", "a", "b", "a")).used, 3)

    def test_the_plain_meaning(self):
        draw = random.Random(154)
        for _ in range(200):
            script = random_script(draw)
            inputs = ["".join(draw.choice("ab") for _ in range(draw.randrange(3))) for _ in range(4)]
            texts, told = {}, {"turns": [], "used": 0, "stop": None}
            plain_run(script.statements, texts, inputs, told)
            run = run_script(script, inputs)
            self.assertEqual(run, Run(tuple(told["turns"]), told["used"], tuple(sorted(texts.items())), told["stop"]))


class TextTest(unittest.TestCase):
    def test_printed(self):
        self.assertEqual(script_text(Script([READ, ("if", ASK, [("stop", 1)], [])])),
                         "letters 2 : read ?x , if ?x = a { stop 1 } else { }")
        self.assertEqual(script_text(Script((), 3)), "letters 3 :")
        self.assertEqual(script_text(Script([("put", "?y", ())], 1)), "letters 1 : put ?y empty")
        self.assertEqual(script_text(read_script(TEXT)), TEXT)

    def test_read_back(self):
        draw = random.Random(155)
        for _ in range(150):
            script = random_script(draw, letters=draw.choice((1, 2, 3)))
            told = read_script(script_text(script))
            self.assertEqual(told, script)
            self.assertFalse(holds_list(told.statements))
        second = []
        for _ in range(4):
            second = [("if", ASK, [READ], second)]
        for script in (Script(()), Script([READ] + nested(4, [READ])), Script([READ] + second), Script([("stop", 99)], 3),
                       Script([READ, ("if", deep_saying(10), [], [("if", ASK, [], [])])])):
            self.assertEqual(read_script(script_text(script)), script)

    def test_each_spoiled_text(self):
        words = TEXT.split(" ")
        for at in range(len(words)):
            for other in (words[:at] + words[at + 1:], words[:at] + [""] + words[at:], words[:at] + ["}"] + words[at + 1:],
                          words[:at] + [words[at] + "\n"] + words[at + 1:], words[:at] + ["{"] + words[at:]):
                text = " ".join(other)
                try:
                    self.assertEqual(script_text(read_script(text)), text)
                except BadText as error:
                    self.assertEqual((error.line, error.place), (0, 0))
        for text in ("", " ", "letters", "letters 2", "letters :", "letters 2 : ", " letters 2 :", "letters 2 : :", "letters 02 :",
                     "letters 0 :", "letters 4 :", "letters 2 : ,", "letters 2 : stop 1 ,", "letters 2 : , stop 1", "letters 2 : stop 01",
                     "letters 2 : stop 100", "letters 2 : stop", "letters 2 : stop -1", "letters 2 : stop 1 2", "letters 2 : read",
                     "letters 2 : read x", "letters 2 : read ?1", "letters 2 : read ?x ?y", "letters 2 : put ?x", "letters 2 : put",
                     "letters 2 : put ?x ?x", "letters 2 : put ?x c", "letters 2 : put ?x empty a", "letters 2 : put ?x a empty",
                     "letters 2 : if a = a { }", "letters 2 : if a = a { } else", "letters 2 : if a = a { } else {",
                     "letters 2 : if a = a { } { }", "letters 2 : if a = a { stop 1 , } else { }", "letters 2 : if { } else { }",
                     "letters 2 : if a { } else { }", "letters 2 : if a = a { } else { } else { }", "letters 2 : if a = a { } else { } }",
                     "letters 2 : if [ a = a ] { } else { }", "letters 2 : if a in (a) { } else { }", "letters 2 : { }",
                     "letters 2 : if ?x = a { } else { }", "letters 2 : stop 1\n", "letters 2 : " + " , ".join(["stop 1"] * 25),
                     "letters 2 : " + " , ".join(["read ?x"] * 5), "letters 2 : put ?x" + " a" * 13, "letters 1 : put ?x b",
                     "letters 2 : " + "if a = a { " * 5 + "} else { } " * 5, "letters 2 : " + "if a = a { " * 3000):
            self.assertEqual(caught(BadText, read_script, text), (0, 0), text[:80])


class TurnedTest(unittest.TestCase):
    def test_at_each_road(self):
        script = read_script(TEXT)
        first = script.statements[2]
        told = turned_at(script, (2,))
        self.assertEqual(told.statements, script.statements[:2] + (("if", ("not", first[1]), first[3], first[2]),) + script.statements[3:])
        self.assertEqual(turned_at(script, [2]), told)
        inner = turned_at(script, (2, 1, 0))
        self.assertEqual(script_text(inner), TEXT.replace("if ?x = empty { } else { read ?z }", "if not [ ?x = empty ] { read ?z } else { }"))
        self.assertEqual(inner.letters, 2)

    def test_at_deep_roads(self):
        text = ("letters 2 : if a = a { if a = b { stop 1 } else { if b = a { stop 2 } else { stop 3 } } } "
                "else { stop 4 , if b = b { if b = a a { stop 5 } else { stop 6 } } else { } }")
        for road, old, new in (((0, 0, 0, 1, 0), "if b = a { stop 2 } else { stop 3 }", "if not [ b = a ] { stop 3 } else { stop 2 }"),
                               ((0, 0, 0), "if a = b { stop 1 } else { if b = a { stop 2 } else { stop 3 } }",
                                "if not [ a = b ] { if b = a { stop 2 } else { stop 3 } } else { stop 1 }"),
                               ((0, 1, 1, 0, 0), "if b = a a { stop 5 } else { stop 6 }", "if not [ b = a a ] { stop 6 } else { stop 5 }")):
            told = turned_at(read_script(text), road)
            self.assertEqual(script_text(told), text.replace(old, new))
        for road in ((0, 0, 0, 0, 0), (0, 1, 0, 0, 0), (0, 1, 1, 1, 0), (1, 0, 0), (0, 0, 1, 0, 0), (0, 0, 0, 1, 1)):
            self.assertEqual(caught(NoIf, turned_at, read_script(text), road), (road,))

    def test_twice(self):
        script = read_script(TEXT)
        twice = turned_at(turned_at(script, (2,)), (2,))
        before = script.statements[2]
        self.assertEqual(twice.statements[2], ("if", ("not", ("not", before[1]))) + before[2:])

    def test_no_if(self):
        script = read_script(TEXT)
        for road in ((0,), (1,), (3,), (4,), (-1,), (-2,), (), (2, 1), (2, 0), (2, 0, 0), (2, 0, 2), (2, 1, 1), (2, 1, 2), (2, 2, 0),
                     (2, -1, 0), (0, 0, 0), (2, 1, 0, 0), (2, 1, 0, 1, 0), (2, 1, 0, 0, 0), (9, 0, 0), (True,), (2, 1, False), None, "2"):
            self.assertEqual(caught(NoIf, turned_at, script, road), (road,))

    def test_errors_of_the_new_script(self):
        script = Script([READ, ("if", deep_saying(10), (), ())])
        self.assertEqual(caught(BadScript, turned_at, script, (1,)), ("saying", (1,)))

    def test_it_runs_likewise_but_for_one_turn(self):
        draw = random.Random(157)
        for _ in range(80):
            script = random_script(draw)
            roads = [(at,) for at, statement in enumerate(script.statements) if statement[0] == "if"]
            inputs = ["".join(draw.choice("ab") for _ in range(draw.randrange(3))) for _ in range(4)]
            run = run_script(script, inputs)
            for road in roads:
                told = run_script(turned_at(script, road), inputs)
                self.assertEqual((told.used, told.ends, told.stop), (run.used, run.ends, run.stop))
                self.assertEqual(len(told.turns), len(run.turns))
                self.assertLessEqual(sum(one != other for one, other in zip(run.turns, told.turns)), 1)


if __name__ == "__main__":
    unittest.main()
