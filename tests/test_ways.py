"""Ways of scripts [15.6 to 15.10]."""

import random
import unittest
from itertools import product

from pressedwords.errors import NoWay, TooFull, TooLong, TooMany, TooWide, UnlikeScripts
from pressedwords.fillings import Filling, filling_of, judge_filling
from pressedwords.papers import Paper, Shut
from pressedwords.sayings import saying_holds, side_text
from pressedwords.scripts import Script, read_script, run_script, turned_at
from pressedwords.solving import judge_shut, solve
from pressedwords.ways import (Found, Never, Way, apart_goals, input_for, inputs_of, meet_goals, never_fault, stop_goals,
                               told_apart, ways_of)
from tests.helpers import as_lists, caught, check_result, holds_list, texts_up_to
from tests.test_scripts import random_script

UNKNOWNS = ("?ra", "?rb", "?rc", "?rd")
EXAMPLE = ("letters 2 : read ?x , if ?x in a* { put ?y b ?x , read ?x } else { read ?y , if ?y = ?x { stop 3 } else { } } , "
           "put ?x ?x ?y , if ?x = a { stop 4 } else { read ?ra }")


def script(text, letters=2):
    return read_script(f"letters {letters} : " + text)


class ResultTest(unittest.TestCase):
    def test_results(self):
        check_result(self, Way, ["turns", "reads", "sayings", "ends", "stop"])
        check_result(self, Found, ["turns", "filling"])
        check_result(self, Never, ["papers"])


class WaysTest(unittest.TestCase):
    def test_example(self):
        told = ways_of(read_script(EXAMPLE))
        star = ("in", ("?ra",), ("again", ("letter", "a")))
        alike = ("alike", ("?rb",), ("?ra",))
        one, other = ("alike", ("?ra", "?rb"), ("a",)), ("alike", ("?rb", "b", "?ra"), ("a",))
        self.assertEqual(told, (
            Way((0, 0, 0), 3, (("not", star), ("not", alike), ("not", one)),
                (("?ra", ("?rc",)), ("?x", ("?ra", "?rb")), ("?y", ("?rb",))), None),
            Way((0, 0, 1), 2, (("not", star), ("not", alike), one), (("?x", ("?ra", "?rb")), ("?y", ("?rb",))), 4),
            Way((0, 1), 2, (("not", star), alike), (("?x", ("?ra",)), ("?y", ("?rb",))), 3),
            Way((1, 0), 3, (star, ("not", other)), (("?ra", ("?rc",)), ("?x", ("?rb", "b", "?ra")), ("?y", ("b", "?ra"))), None),
            Way((1, 1), 2, (star, other), (("?x", ("?rb", "b", "?ra")), ("?y", ("b", "?ra"))), 4)))
        for way in told:
            self.assertFalse(holds_list((way.turns, way.sayings, way.ends)))

    def test_small_ones(self):
        self.assertEqual(ways_of(Script(())), (Way((), 0, (), (), None),))
        self.assertEqual(ways_of(script("stop 7 , read ?x")), (Way((), 0, (), (), 7),))
        four = ways_of(script("read ?d , read ?c , read ?b , read ?a"))[0]
        self.assertEqual(four.ends, (("?a", ("?rd",)), ("?b", ("?rc",)), ("?c", ("?rb",)), ("?d", ("?ra",))))

    def test_names_of_the_unknowns_may_be_names_of_the_script(self):
        told = ways_of(script("read ?rb , read ?ra , put ?rb ?rb ?ra ?rb , if ?rb = ?ra { } else { }"))[1]
        self.assertEqual(told.ends, (("?ra", ("?rb",)), ("?rb", ("?ra", "?rb", "?ra"))))
        self.assertEqual(told.sayings, (("alike", ("?ra", "?rb", "?ra"), ("?rb",)),))

    def test_exactly_one_way_is_the_run(self):
        draw = random.Random(156)
        for _ in range(150):
            made = random_script(draw, letters=draw.choice((1, 2, 2)))
            told = ways_of(made)
            self.assertEqual([way.turns for way in told], sorted({way.turns for way in told}))
            reads = max(way.reads for way in told)
            alphabet = "ab"[:made.letters]
            for inputs in product(texts_up_to(alphabet, 2 if reads < 3 else 1), repeat=reads):
                texts = dict(zip(UNKNOWNS, inputs))
                holding = [way for way in told if all(saying_holds(saying, texts) for saying in way.sayings)]
                self.assertEqual(len(holding), 1)
                way, run = holding[0], run_script(made, inputs)
                self.assertEqual((way.turns, way.reads, way.stop), (run.turns, run.used, run.stop))
                self.assertEqual(tuple((name, side_text(side, texts)) for name, side in way.ends), run.ends)


class GoalsTest(unittest.TestCase):
    def test_stop_goals(self):
        made = read_script(EXAMPLE)
        told = ways_of(made)
        for stop, places in ((None, (0, 3)), (3, (2,)), (4, (1, 4)), (5, ())):
            self.assertEqual(stop_goals(made, stop), tuple((told[at].turns, told[at].sayings) for at in places))

    def test_apart_goals(self):
        one, other = read_script(EXAMPLE), script("read ?x , if ?x = a { stop 3 } else { if ?x = b { } else { stop 4 } }")
        goals = [((way.turns, then.turns), way.sayings + then.sayings) for way in ways_of(one) for then in ways_of(other)
                 if way.stop != then.stop]
        self.assertEqual(apart_goals(one, other), tuple(goals))
        self.assertEqual(len(goals), 10)
        self.assertEqual(apart_goals(script("stop 1"), script("read ?x , stop 1")), ())
        self.assertEqual(apart_goals(script("stop 1"), Script(())), (((((), ())), ()),))

    def test_unlike_scripts(self):
        for call in (apart_goals, told_apart):
            self.assertEqual(caught(UnlikeScripts, call, Script((), 1), Script((), 2)), ())


class MeetTest(unittest.TestCase):
    def test_found(self):
        made = script("read ?x , if ?x a = b ?x { stop 1 } else { if ?x in bb* { stop 2 } else { stop 1 } }")
        goals = stop_goals(made, 1)
        self.assertEqual([turns for turns, _ in goals], [(0, 0), (1,)])
        told = meet_goals(goals, 2)
        self.assertEqual(told.turns, (0, 0))
        self.assertEqual(told, Found((0, 0), solve(goals[0][1])))
        self.assertEqual(meet_goals(goals[::-1], 2).turns, (0, 0))
        self.assertEqual(meet_goals(list(goals), 2, room=300), told)

    def test_never(self):
        made = script("read ?x , if ?x a = b ?x { stop 1 } else { if ?x in bb* { if ?x = a { stop 1 } else { } } else { } }")
        goals = stop_goals(made, 1)
        told = meet_goals(goals, 2)
        self.assertIs(type(told), Never)
        self.assertIs(type(told.papers), tuple)
        self.assertEqual(told.papers, tuple((turns, solve(sayings)) for turns, sayings in goals))
        self.assertIsNone(never_fault(goals, 2, told))
        self.assertEqual(meet_goals((), 2), Never(()))
        self.assertIsNone(never_fault((), 2, Never(())))

    def test_goals_as_lists(self):
        one, other = script("read ?x , if ?x = a { stop 1 } else { }"), script("read ?x , if ?x in a { stop 1 } else { }")
        goals = apart_goals(one, other)
        never = meet_goals(as_lists(goals), 2)
        self.assertEqual(never, meet_goals(goals, 2))
        self.assertIs(type(never), Never)
        self.assertFalse(holds_list(never.papers))
        self.assertIsNone(never_fault(as_lists(goals), 2, never))
        goals = stop_goals(one, 1)
        self.assertEqual(meet_goals(as_lists(goals), 2), meet_goals(goals, 2))

    def test_each_fault_of_a_never(self):
        made = script("read ?x , if ?x a = b ?x { stop 1 } else { if ?x in bb* { if ?x = a { stop 1 } else { } } else { } }")
        goals = stop_goals(made, 1)
        papers = meet_goals(goals, 2).papers
        wrong = Shut(Paper(((0,),), ()))
        for other, fault in (((), "many"), (papers[:1], "many"), (papers + papers[:1], "many"), (papers[::-1], 0),
                             ((((0,), papers[0][1]), papers[1]), 0),
                             ((papers[0], (papers[1][0], papers[0][1])), 1), ((papers[0], ((), papers[1][1])), 1),
                             (((papers[0][0], wrong), papers[1]), 0), ((papers[0], (papers[1][0], wrong)), 1)):
            self.assertEqual(never_fault(goals, 2, Never(other)), fault)

    def test_errors_pass_through(self):
        wide = tuple(("not", ("alike", ("?ra",), ("a",))) for _ in range(4))
        for call in (lambda: meet_goals((((), wide),), 2), lambda: never_fault((((), wide),), 2, Never((((), Shut(None)),)))):
            self.assertEqual(caught(TooWide, call), ("cases",))
        goals = (((), (("alike", ("?ra", "a", "?rb", "a"), ("a", "b", "?rb")),)),)
        caught(TooFull, lambda: meet_goals(goals, 2, room=5))


class InputsTest(unittest.TestCase):
    def test_input_for(self):
        made = script("read ?x , if ?x in a* { read ?y , if ?y b = b ?x { stop 1 } else { } } else { put ?x ?x a , "
                      "if ?x in a* { } else { if ?x in .*ba { stop 2 } else { } } }")
        kinds = []
        for way in ways_of(made):
            for turns in (way.turns, list(way.turns)):
                told = input_for(made, turns)
                self.assertEqual(told, solve(way.sayings))
            kinds.append(type(told))
            if isinstance(told, Filling):
                self.assertIsNone(judge_filling(way.sayings, 2, told))
                self.assertEqual(run_script(made, inputs_of(told, 4)).turns, way.turns)
            else:
                self.assertIsNone(judge_shut(way.sayings, 2, told))
        self.assertEqual(kinds, [Filling, Filling, Shut, Filling, Filling])

    def test_no_way(self):
        made = read_script(EXAMPLE)
        for turns in ((), (1,), (0, 0), (1, 1, 1), (2,), (1, 2), (-1,), [1]):
            self.assertEqual(caught(NoWay, input_for, made, turns), (turns,))
        self.assertEqual(input_for(script("stop 1"), ()), filling_of(()))

    def test_room(self):
        made = script("read ?x , read ?y , if ?x a ?y a = a b ?y { } else { }")
        caught(TooFull, lambda: input_for(made, (1,), room=5))
        self.assertIs(type(input_for(made, (0,), room=300)), Filling)

    def test_inputs_of(self):
        filling = filling_of((("?ra", "ab"), ("?rc", "aaaa"), ("?x", "a" * 50)))
        for reads, told in ((0, ()), (1, ("ab",)), (2, ("ab", "")), (3, ("ab", "", "aaaa")), (4, ("ab", "", "aaaa", ""))):
            self.assertEqual(inputs_of(filling, reads), told)
        self.assertEqual(inputs_of(filling, 4, 4), ("ab", "", "aaaa", ""))
        self.assertEqual(inputs_of(filling, 2, room=2), ("ab", ""))
        self.assertEqual(caught(TooLong, inputs_of, filling, 4, 3), (4,))
        self.assertEqual(caught(TooLong, inputs_of, filling, 4, 1), (2,))
        self.assertEqual(caught(TooLong, inputs_of, filling_of((("?rb", "a" * 4), ("?rd", "a" * 400))), 4, 3), (4,))
        self.assertEqual(caught(TooLong, inputs_of, filling_of((("?rb", "a" * 4), ("?rd", "a" * 400))), 4, 4), (400,))


class ApartTest(unittest.TestCase):
    def test_found(self):
        one = script("read ?x , if ?x in (aa)* { stop 1 } else { stop 2 }")
        other = script("read ?x , if ?x in (aaa)* { stop 1 } else { stop 2 }")
        told = told_apart(one, other)
        self.assertIs(type(told), Found)
        inputs = inputs_of(told.filling, 1)
        runs = run_script(one, inputs), run_script(other, inputs)
        self.assertNotEqual(runs[0].stop, runs[1].stop)
        self.assertEqual(told.turns, (runs[0].turns, runs[1].turns))
        self.assertEqual(told, meet_goals(apart_goals(one, other), 2))

    def test_never(self):
        one = script("read ?x , if ?x a = a ?x { stop 1 } else { stop 2 }")
        other = script("read ?x , if ?x in a* { stop 1 } else { stop 2 }")
        told = told_apart(one, other)
        self.assertIs(type(told), Never)
        self.assertIsNone(never_fault(apart_goals(one, other), 2, told))
        caught(TooFull, lambda: told_apart(one, other, room=1))

    def test_against_all_short_inputs(self):
        draw = random.Random(1510)
        counts = {Found: 0, Never: 0}
        while min(counts.values()) < 12:
            one, other = random_script(draw, 2), random_script(draw, 2)
            if draw.random() < 0.5:
                other = Script(one.statements[:-1] + other.statements[-1:]) if other.statements[-1][0] != "if" else one
            try:
                told = told_apart(one, other, room=12)
            except (TooFull, TooMany, TooWide):
                continue
            reads = max(way.reads for way in ways_of(one) + ways_of(other))
            if isinstance(told, Found):
                inputs = inputs_of(told.filling, 4)
                runs = run_script(one, inputs), run_script(other, inputs)
                self.assertNotEqual(runs[0].stop, runs[1].stop)
                self.assertEqual(told.turns, (runs[0].turns, runs[1].turns))
            else:
                self.assertIsNone(never_fault(apart_goals(one, other), 2, told))
                for inputs in product(texts_up_to("ab", 2 if reads < 3 else 1), repeat=reads):
                    self.assertEqual(run_script(one, inputs).stop, run_script(other, inputs).stop)
            counts[type(told)] += 1

    def test_a_turned_script_is_never_told_apart(self):
        draw = random.Random(1511)
        many = 0
        while many < 25:
            made = random_script(draw, 3)
            roads = [(at,) for at, statement in enumerate(made.statements) if statement[0] == "if"]
            for road in roads:
                try:
                    told = told_apart(made, turned_at(made, road), room=40)
                except (TooFull, TooMany, TooWide):
                    continue
                self.assertIs(type(told), Never)
                many += 1


if __name__ == "__main__":
    unittest.main()
