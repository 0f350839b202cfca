"""Deeds [4.1 to 4.5]."""

import random
import unittest

from pressedwords.deeds import Deeds, deed_after, deed_times, deeds_of, power_of
from pressedwords.errors import TooMany
from pressedwords.watchers import Watcher
from tests.helpers import Alien, caught, holds_list, lot_for, texts_up_to, watcher_for
from tests.test_watchers import LOOSE, first_of, plain_state, random_watcher

SHOWN = ([".*ab.*"], ["(aa)*"], ["a"], ["(..)*", ".*b"], [], ["a*b*"], ["(ab)*"])


def plain_deed(watcher, text):
    return tuple(plain_state(watcher, text, state) for state in range(watcher.states))


def small_watchers(chance, many):
    """Watchers of up to four states over one to three letters whose texts have few enough deeds."""
    found = [LOOSE]
    while len(found) < many:
        watcher = random_watcher(chance, chance.randint(1, 3), chance.randint(1, 4))
        if len(plain_table(watcher, 61)) <= 60:
            found.append(watcher)
    return found


def plain_table(watcher, most):
    """The deeds of texts that are not empty with their first texts, found length by length."""
    table = {}
    texts = [""]
    while texts and len(table) < most:
        longer = [text + letter for text in texts for letter in "abc"[:watcher.letters]]
        texts = []
        for text in longer:
            deed = plain_deed(watcher, text)
            if deed not in table:
                table[deed] = text
                texts.append(text)
    return table


def ring(states):
    """A watcher of one letter whose texts have so many deeds."""
    return Watcher(1, tuple(((state + 1) % states,) for state in range(states)), ((0,),))


class DeedsOfTest(unittest.TestCase):
    def test_the_table_of_small_watchers(self):
        chance = random.Random(1)
        for watcher in small_watchers(chance, 80):
            lot = deeds_of(watcher)
            self.assertEqual(dict(lot.table), plain_table(watcher, 61))
            self.assertEqual([deed for deed, _ in lot.table], sorted(dict(lot.table)))
            for deed, _ in lot.table:
                for other, _ in lot.table:
                    self.assertIn(deed_after(deed, other), dict(lot.table))
            self.assertEqual((lot.watcher, lot.states), (watcher, watcher.states))
            self.assertEqual(lot.letters, tuple("abc"[:watcher.letters]))
            self.assertFalse(holds_list((lot.table, lot.letters)))

    def test_first_texts_among_all_short_texts(self):
        for texts in SHOWN:
            watcher = watcher_for(texts, 2)
            for deed, first in deeds_of(watcher).table:
                self.assertEqual(first, first_of(texts_up_to("ab", 5)[1:],
                                                 lambda text: plain_deed(watcher, text) == deed))

    def test_examples(self):
        self.assertEqual(lot_for([], 2).table, (((0,), "a"),))
        self.assertEqual(lot_for(["(aa)*"], 1).table, (((0, 1), "aa"), ((1, 0), "a")))
        self.assertEqual(lot_for([".*ab.*"], 2).table,
                         (((0, 2, 2), "b"), ((1, 1, 2), "a"), ((1, 2, 2), "ba"), ((2, 2, 2), "ab")))

    def test_60_deeds_and_one_more(self):
        self.assertEqual(len(deeds_of(ring(60)).table), 60)
        self.assertEqual(caught(TooMany, deeds_of, ring(61)), ())
        self.assertEqual(caught(TooMany, deeds_of, ring(2000)), ())
        # A tail of 59 states ahead of a ring of one has 59 deeds; of the empty text nothing is counted.
        tail = Watcher(1, tuple((min(state + 1, 60),) for state in range(61)), ((60,),))
        self.assertEqual(len(deeds_of(tail).table), 60)
        longer = Watcher(1, tuple((min(state + 1, 61),) for state in range(62)), ((61,),))
        self.assertEqual(caught(TooMany, deeds_of, longer), ())

    def test_too_many_of_four_states(self):
        # The whole of 256 deeds comes of a turn, an exchange and a fold.
        watcher = Watcher(3, ((1, 1, 0), (2, 0, 0), (3, 2, 2), (0, 3, 3)), ((0,),))
        self.assertEqual(caught(TooMany, deeds_of, watcher), ())


class DeedsTest(unittest.TestCase):
    def test_keeps_what_it_is_given(self):
        table = (((1, 0), "a"),)
        watcher = watcher_for(["(aa)*"], 1)
        lot = Deeds(watcher, table)
        self.assertIs(lot.watcher, watcher)
        self.assertIs(lot.table, table)
        self.assertEqual((lot.states, lot.letters), (2, ("a",)))

    def test_equality(self):
        watcher, other = watcher_for(["(aa)*"], 1), watcher_for(["a(aa)*"], 1)
        table = deeds_of(watcher).table
        self.assertEqual(table, deeds_of(other).table)
        self.assertTrue(Deeds(watcher, table) == Deeds(watcher_for(["(aa)*"], 1), tuple(table)))
        self.assertFalse(Deeds(watcher, table) == Deeds(other, table))
        self.assertFalse(Deeds(watcher, table) == Deeds(watcher, table[:1]))
        self.assertTrue(Deeds(watcher, table) != Deeds(watcher, ()))
        for alien in (Alien(**vars(Deeds(watcher, table))), (watcher, table), None):
            self.assertFalse(Deeds(watcher, table) == alien)

    def test_letter_and_text_deeds(self):
        chance = random.Random(2)
        for watcher in small_watchers(chance, 30):
            lot = deeds_of(watcher)
            for letter in lot.letters:
                self.assertEqual(lot.letter_deed(letter), plain_deed(watcher, letter))
            for text in texts_up_to("abc"[:watcher.letters], 3):
                self.assertEqual(lot.text_deed(text), plain_deed(watcher, text))
            self.assertEqual(lot.text_deed(""), tuple(range(watcher.states)))

    def test_text_of(self):
        lot = lot_for([".*ab.*"], 2)
        self.assertEqual([lot.text_of(deed) for deed, _ in lot.table], ["b", "a", "ba", "ab"])
        for deed in ((0, 1, 2), (), (0,), (0, 2, 2, 2), (5, 5, 5), ("a",), ([], {}), (None, None, None), (0, 2, "2")):
            self.assertIsNone(lot.text_of(deed))
        even = lot_for(["(aa)*"], 1)
        self.assertEqual(even.text_of((1, 0)), "a")
        self.assertIsNone(even.text_of((True, False)))
        self.assertIsNone(even.text_of((1.0, 0.0)))

    def test_reached_from(self):
        lot = lot_for([".*ab.*"], 2)
        self.assertEqual([lot.reached_from(start) for start in range(3)], [(0, 1, 2), (1, 2), (2,)])
        chance = random.Random(3)
        for watcher in small_watchers(chance, 30):
            lot = deeds_of(watcher)
            texts = texts_up_to("abc"[:watcher.letters], 4)[1:]
            for start in range(watcher.states):
                reached = {plain_state(watcher, text, start) for text in texts}
                self.assertEqual(lot.reached_from(start), tuple(sorted(reached)))

    def test_path_text(self):
        lot = lot_for([".*ab.*"], 2)
        self.assertEqual(lot.path_text(0, (2,)), "ab")
        self.assertEqual(lot.path_text(0, [2, 0, 2]), "b")
        self.assertEqual(lot.path_text(1, (2, 1, 0)), "a")
        self.assertEqual(lot.path_text(2, (0, 1)), None)
        self.assertEqual(lot.path_text(0, ()), None)
        self.assertEqual(lot.path_text(0, []), None)
        self.assertEqual(lot_for(["(aa)*"], 1).path_text(0, (0,)), "aa")
        chance = random.Random(4)
        for watcher in small_watchers(chance, 30):
            lot = deeds_of(watcher)
            texts = texts_up_to("abc"[:watcher.letters], 4)[1:]
            for start in range(watcher.states):
                goals = [chance.randrange(watcher.states) for _ in range(chance.randint(0, 3))]
                wanted = first_of(texts, lambda text: plain_state(watcher, text, start) in goals)
                self.assertEqual(lot.path_text(start, goals), wanted)
                self.assertEqual(wanted is None, not set(goals) & set(lot.reached_from(start)))

    def test_apart_in(self):
        lot = lot_for([".*ab.*", ".*b"], 2)
        for one, first in lot.table:
            for other, second in lot.table:
                told = lot.apart_in(one, other)
                self.assertEqual(told is None, one == other)
                if told is not None:
                    number, before, behind = told
                    takes = [lot.watcher.takes(number, before + text + behind) for text in (first, second)]
                    self.assertEqual(sorted(takes), [False, True])

    def test_apart_in_goes_by_its_words(self):
        chance = random.Random(5)
        told_none = 0
        for watcher in small_watchers(chance, 40):
            lot = deeds_of(watcher)
            for one, _ in lot.table[:6]:
                for other, _ in lot.table[:6]:
                    wanted = plain_apart(watcher, one, other)
                    self.assertEqual(lot.apart_in(one, other), wanted)
                    told_none += wanted is None and one != other
        self.assertGreater(told_none, 0)

    def test_apart_in_of_deeds_that_do_unlike_things_where_no_text_leads(self):
        # State 3 of LOOSE is never reached, and states 1 and 2 take alike.
        lot = deeds_of(LOOSE)
        self.assertIsNone(lot.apart_in((0, 1, 1, 0), (0, 2, 2, 3)))
        self.assertEqual(lot.apart_in((0, 1, 1, 0), (0, 0, 2, 0)), (0, "a", ""))


def plain_apart(watcher, one, other):
    for state in range(watcher.states):
        before = watcher.reach_text(state)
        behind = watcher.apart_text(one[state], other[state])
        if before is not None and behind is not None:
            reached = [plain_state(watcher, behind, deed[state]) for deed in (one, other)]
            number = min(at for at, ends in enumerate(watcher.ends) if (reached[0] in ends) != (reached[1] in ends))
            return (number, before, behind)
    return None


def plain_power(deed, many):
    power = tuple(range(len(deed)))
    for _ in range(many):
        power = tuple(deed[state] for state in power)
    return power


class PowersTest(unittest.TestCase):
    def test_deed_after(self):
        self.assertEqual(deed_after((1, 2, 0), (0, 0, 1)), (0, 1, 0))
        self.assertEqual(deed_after((0, 0, 1), (1, 2, 0)), (1, 1, 2))
        self.assertEqual(deed_after((0,), (0,)), (0,))
        self.assertEqual(deed_after(LOOSE_DEEDS["ab"], LOOSE_DEEDS["ba"]), plain_deed(LOOSE, "abba"))

    def test_power_of_examples(self):
        self.assertEqual(power_of((0,)), (1, 1))
        self.assertEqual(power_of((1, 0)), (1, 2))
        self.assertEqual(power_of((1, 2, 2)), (2, 1))
        self.assertEqual(power_of((1, 2, 3, 3)), (3, 1))
        self.assertEqual(power_of((1, 2, 3, 4, 2)), (2, 3))
        self.assertEqual(power_of((0, 1, 2)), (1, 1))

    def test_power_of_against_going_through_the_powers(self):
        chance = random.Random(6)
        for _ in range(200):
            states = chance.randint(1, 8)
            deed = tuple(chance.randrange(states) for _ in range(states))
            powers = [plain_power(deed, many) for many in range(60)]
            first = min(many for many in range(1, 30) if powers[many] in powers[many + 1:])
            period = min(many for many in range(1, 30) if powers[first + many] == powers[first])
            self.assertEqual(power_of(deed), (first, period))

    def test_deed_times_against_going_through_the_powers(self):
        chance = random.Random(7)
        for _ in range(100):
            states = chance.randint(1, 8)
            deed = tuple(chance.randrange(states) for _ in range(states))
            for many in range(20):
                self.assertEqual(deed_times(deed, many), plain_power(deed, many))
        self.assertEqual(deed_times((1, 1), 0), (0, 1))

    def test_a_count_of_a_hundred_figures(self):
        ring_deed = tuple((state + 1) % 24 for state in range(24))
        many = int("7" * 100)
        self.assertEqual(deed_times(ring_deed, many), tuple((state + many) % 24 for state in range(24)))
        self.assertEqual(deed_times((1, 2, 2), 10 ** 99), (2, 2, 2))
        deed = (1, 2, 3, 4, 2)
        first, period = power_of(deed)
        self.assertEqual(deed_times(deed, many), plain_power(deed, first + (many - first) % period))


LOOSE_DEEDS = {text: plain_deed(LOOSE, text) for text in texts_up_to("ab", 2)}


if __name__ == "__main__":
    unittest.main()
