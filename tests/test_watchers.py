"""Watchers [3.7 to 3.9]."""

import random
import unittest

from pressedwords.errors import BadLetters
from pressedwords.expressions import matches, read_expression
from pressedwords.watchers import Watcher, text_apart, watcher_of
from tests.helpers import Alien, caught, check_result, holds_list, texts_up_to, watcher_for
from tests.test_expressions import random_expression

# Not least: states 1 and 2 take alike, and no text leads to state 3.
LOOSE = Watcher(2, ((1, 2), (0, 1), (0, 2), (3, 0)), ((1, 2), (0,), (3,)))


def plain_state(watcher, text, state=0):
    for letter in text:
        state = watcher.moves[state]["abc".index(letter)]
    return state


def random_watcher(chance, letters, states):
    moves = tuple(tuple(chance.randrange(states) for _ in range(letters)) for _ in range(states))
    ends = tuple(tuple(state for state in range(states) if chance.random() < 0.4) for _ in range(2))
    return Watcher(letters, moves, ends)


def first_of(texts, wanted):
    return next((text for text in texts if wanted(text)), None)


class WatcherTest(unittest.TestCase):
    def test_keeps_what_it_is_given(self):
        moves, ends = ((0, 1), (1, 0)), ((1,), ())
        watcher = Watcher(2, moves, ends)
        self.assertEqual((watcher.letters, watcher.states), (2, 2))
        self.assertIs(watcher.moves, moves)
        self.assertIs(watcher.ends, ends)

    def test_equality(self):
        check_result(self, Watcher, ["letters", "moves", "ends"])
        self.assertFalse(LOOSE == Alien(**vars(LOOSE)))
        self.assertTrue(LOOSE == Watcher(letters=2, moves=LOOSE.moves, ends=LOOSE.ends))

    def test_state_after(self):
        self.assertEqual(LOOSE.state_after(""), 0)
        self.assertEqual(LOOSE.state_after("", 3), 3)
        self.assertEqual(LOOSE.state_after("ab"), 1)
        self.assertEqual(LOOSE.state_after("b", state=3), 0)
        for text in texts_up_to("ab", 4):
            for state in range(4):
                self.assertEqual(LOOSE.state_after(text, state), plain_state(LOOSE, text, state))
        three = Watcher(3, ((0, 0, 1), (1, 1, 0)), ())
        self.assertEqual(three.state_after("cabc" + "c"), 1)

    def test_takes(self):
        for text in texts_up_to("ab", 4):
            state = plain_state(LOOSE, text)
            self.assertIs(LOOSE.takes(0, text), state in (1, 2))
            self.assertIs(LOOSE.takes(1, text), state == 0)
            self.assertIs(LOOSE.takes(2, text), False)

    def test_goals_where(self):
        self.assertEqual(LOOSE.goals_where(()), (0, 1, 2, 3))
        self.assertEqual(LOOSE.goals_where([(0, True)]), (1, 2))
        self.assertEqual(LOOSE.goals_where([[0, False]]), (0, 3))
        self.assertEqual(LOOSE.goals_where(((0, False), (1, False))), (3,))
        self.assertEqual(LOOSE.goals_where(((0, False), (1, False), (2, False))), ())
        self.assertEqual(LOOSE.goals_where(((0, True), (0, False))), ())
        self.assertEqual(LOOSE.goals_where(((1, True), (1, True), (0, False))), (0,))

    def test_reach_text(self):
        self.assertEqual([LOOSE.reach_text(state) for state in range(4)], ["", "a", "b", None])
        chance = random.Random(1)
        texts = texts_up_to("ab", 5)
        for _ in range(60):
            watcher = random_watcher(chance, 2, 5)
            for state in range(5):
                wanted = first_of(texts, lambda text: plain_state(watcher, text) == state)
                self.assertEqual(watcher.reach_text(state), wanted)

    def test_apart_text(self):
        self.assertEqual(LOOSE.apart_text(0, 1), "")
        self.assertIsNone(LOOSE.apart_text(1, 2))
        self.assertIsNone(LOOSE.apart_text(3, 3))
        self.assertIsNone(Watcher(1, ((1,), (0,)), ()).apart_text(0, 1))
        self.assertEqual(Watcher(2, ((2, 0), (1, 0), (2, 1)), ((1,),)).apart_text(0, 2), "b")
        chance = random.Random(2)
        texts = texts_up_to("ab", 6)
        found = []
        for _ in range(60):
            watcher = random_watcher(chance, 2, 4)
            for state in range(4):
                for other in range(4):
                    wanted = first_of(texts, lambda text: any(
                        (plain_state(watcher, text, state) in ends) != (plain_state(watcher, text, other) in ends)
                        for ends in watcher.ends))
                    self.assertEqual(watcher.apart_text(state, other), wanted)
                    found.append(wanted)
        self.assertGreater(len({text for text in found if text}), 3)


class WatcherOfTest(unittest.TestCase):
    def assert_least(self, watcher):
        reached = [watcher.reach_text(state) for state in range(watcher.states)]
        self.assertNotIn(None, reached)
        self.assertEqual(reached, sorted(reached, key=lambda text: (len(text), text)))
        for state in range(watcher.states):
            for other in range(state):
                self.assertIsNotNone(watcher.apart_text(state, other))

    def test_no_expressions(self):
        self.assertEqual(watcher_of((), 2), Watcher(2, ((0, 0),), ()))
        self.assertEqual(watcher_of([], 3), Watcher(3, ((0, 0, 0),), ()))

    def test_examples(self):
        self.assertEqual(watcher_for(["a"], 2), Watcher(2, ((1, 2), (2, 2), (2, 2)), ((1,),)))
        self.assertEqual(watcher_for([".*"], 2), Watcher(2, ((0, 0),), ((0,),)))
        self.assertEqual(watcher_for(["a"], 1), Watcher(1, ((1,), (2,), (2,)), ((1,),)))
        self.assertEqual(watcher_for(["(..)*", ".*b"], 2),
                         Watcher(2, ((1, 2), (0, 3), (0, 3), (1, 2)), ((0, 3), (2, 3))))

    def test_wrong_letters(self):
        for letters in (0, 4, True, "2", None):
            self.assertEqual(caught(BadLetters, watcher_of, (), letters), ())
            self.assertEqual(caught(BadLetters, watcher_of, (("any",),), letters), ())
            self.assertEqual(caught(BadLetters, text_apart, ("any",), ("empty",), letters), ())

    def test_tuples_throughout_and_what_is_passed_in_stays(self):
        expressions = [read_expression(text, 2) for text in ("(ab)*", "a|b")]
        before = list(expressions)
        watcher = watcher_of(expressions, 2)
        self.assertEqual(expressions, before)
        self.assertFalse(holds_list((watcher.moves, watcher.ends)))
        expressions.clear()
        self.assertEqual(watcher, watcher_of(tuple(before), 2))

    def test_takes_what_the_expressions_match(self):
        chance = random.Random(4)
        for letters, alphabet, length in ((1, "a", 9), (2, "ab", 6), (3, "abc", 4)):
            texts = texts_up_to(alphabet, length)
            for _ in range(25):
                expressions = [random_expression(chance, 3, alphabet) for _ in range(chance.randint(1, 3))]
                watcher = watcher_of(expressions, letters)
                self.assertEqual((watcher.letters, len(watcher.ends)), (letters, len(expressions)))
                for number, expression in enumerate(expressions):
                    self.assertEqual(watcher.ends[number], tuple(sorted(set(watcher.ends[number]))))
                    for text in texts:
                        self.assertIs(watcher.takes(number, text), matches(expression, text))
                self.assert_least(watcher)

    def test_one_set_told_in_two_ways_gives_one_watcher(self):
        for one, other in (("(a|b)*", ".*"), ("a*a*", "a**"), ("(ab)*a", "a(ba)*"), ("aa*|_", "a*"),
                           ("(.*a.|_)*", "_|.*a.")):
            self.assertEqual(watcher_for([one], 2), watcher_for([other], 2))

    def test_many_marks(self):
        watcher = watcher_for([".*a.........."], 2)
        self.assertEqual(watcher.states, 2 ** 11)
        self.assertEqual(watcher_for(["(aaa)*", "(aaaa)*", "(aaaaa)*"], 1).states, 60)


class TextApartTest(unittest.TestCase):
    def apart(self, one, other, letters=2):
        return text_apart(read_expression(one, letters), read_expression(other, letters), letters)

    def test_examples(self):
        self.assertEqual(self.apart("a", "_"), "")
        self.assertEqual(self.apart("a*", "(aa)*"), "a")
        self.assertEqual(self.apart("a*b", "(aa)*b"), "ab")
        self.assertEqual(self.apart("(.......)*", "(...)*"), "aaa")
        self.assertIsNone(self.apart("a*", "a**"))
        self.assertIsNone(self.apart("(a|b)*", ".*"))
        self.assertEqual(self.apart("(a|b)*", ".*", 3), "c")
        self.assertIsNone(self.apart("a", "a", 1))

    def test_the_first_text_that_one_of_both_has(self):
        chance = random.Random(8)
        texts = texts_up_to("ab", 7)
        alike = 0
        for _ in range(150):
            one, other = random_expression(chance, 3), random_expression(chance, 3)
            wanted = first_of(texts, lambda text: matches(one, text) != matches(other, text))
            self.assertEqual(text_apart(one, other, 2), wanted)
            self.assertEqual(watcher_of([one], 2) == watcher_of([other], 2), wanted is None)
            alike += wanted is None
        self.assertGreater(alike, 3)


if __name__ == "__main__":
    unittest.main()
