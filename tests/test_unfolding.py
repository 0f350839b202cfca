"""Unfolding of trails [12.8 to 12.10]."""

import unittest

from pressedwords.books import Book
from pressedwords.carries import whole
from pressedwords.deeds import deed_after, deed_times
from pressedwords.fillings import Filling, filling_of
from pressedwords.forms import form_value
from pressedwords.grammars import Grammar, trimmed_grammar
from pressedwords.guesses import Guess
from pressedwords.nets import Net
from pressedwords.pressing import press_words
from pressedwords.trails import Trail, trail_of
from pressedwords.unfolding import Stages, unfold, unfold_stages
from tests.helpers import check_result, holds_list, lot_for, root_of

ONE = lot_for([], 2)
AB = lot_for([".*ab.*"], 2)
EVEN = lot_for(["(aa|b)*"], 2)
EXAMPLES = (
    (ONE, "first", ("XY=YX",), None),
    (AB, "last", ("X=Z",), None),
    (AB, "last", ("ZXb=bab",), [(0, (0, 1, 2)), (0, (1,)), (0, (0, 1, 2))]),
    (ONE, "last", ("bXY=YXb",), None),
    (ONE, "last", ("ba=X",), None),
    (EVEN, "least", ("X=bb",), [(0, (0, 1)), (0, (0,)), (0, (0,))]),
    (AB, "last", ("X=ZZY",), [(0, (2,)), (0, (0, 1)), (0, (0, 1))]),
    (EVEN, "last", ("Zbb=ZYZ",), None),
    (EVEN, "least", ("XXXb=Yb",), None),
    (AB, "last", ("bbba=Y",), None),
    (ONE, "first", ("Zaa=Y",), None),
    (ONE, "last", ("XX=aa",), None),
    (AB, "least", ("XZb=aZYY",), None),
    (AB, "first", ("aaaa=XZX",), None),
    (ONE, "last", ("bbXY=Z",), None),
    (EVEN, "last", ("ZX=bbb",), [(0, (0,)), (0, (0, 1, 2)), (0, (0, 1))]),
    (ONE, "least", ("YYZ=bba",), None),
    (ONE, "last", ("bZZ=ZYb",), None),
    (EVEN, "least", ("X=aaZb",), None),
    (EVEN, "first", ("aaX=Zab",), [(0, (1, 2)), (0, (0, 2)), (0, (1, 2))]),
    (ONE, "first", ("bXaab=bYY",), None),
    (ONE, "first", ("aX=Xa",), None),
)


def trail_for(lot, order, rows, ends=None):
    net = Net([root_of(lot, *rows, ends=ends)], lot, order, room=200)
    net.run(300)
    return trail_of(net)


def letter_texts(book, lot, times=1):
    """A text for each letter of a book, some of them not the first ones of their deeds."""
    texts = []
    for deed in book.deeds:
        text = lot.text_of(deed)
        longer = text * (times + 1)
        texts.append(longer if lot.text_deed(longer) == deed else text)
    return texts


def rule_deeds(grammar, lot):
    deeds = []
    for rule in grammar.rules:
        if rule[0] == "text":
            deeds.append(lot.text_deed(rule[1]))
        elif rule[0] == "pair":
            deeds.append(deed_after(deeds[rule[1]], deeds[rule[2]]))
        else:
            deeds.append(deed_times(deeds[rule[1]], rule[2]))
    return deeds


class StagesTest(unittest.TestCase):
    def test_stages_is_a_result(self):
        check_result(self, Stages, ["grammar", "stages"])

    def check_stages(self, trail, letters, lot):
        told = unfold_stages(trail, letters, lot)
        self.assertIs(type(told), Stages)
        self.assertFalse(holds_list(told.stages))
        self.assertEqual(len(told.stages), len(trail.turns))
        deeds = rule_deeds(told.grammar, lot)
        for (book, _, _), (symbols, words) in zip(trail.turns, told.stages):
            self.assertEqual(tuple(deeds[symbol] for symbol in symbols), book.deeds)
            self.assertEqual(len(words), len(book.ends))
            for (start, goals), word in zip(book.ends, words):
                self.assertGreater(told.grammar.word_length(word), 0)
                for symbol in word:
                    start = deeds[symbol][start]
                self.assertIn(start, goals)
            sides = [self.side_word(side, symbols, words) for row in book.rows for side in row]
            ends = press_words(told.grammar, sides).ends
            self.assertEqual(ends[::2], ends[1::2])
        if trail.turns:
            texts = [told.grammar.plain_text((symbol,), 400) for symbol in told.stages[0][0]]
            self.assertEqual(texts, list(letters))
        return told

    def side_word(self, side, symbols, words):
        return tuple(part for sign in side for part in ((symbols[sign],) if sign >= 0 else words[-1 - sign]))

    def test_every_book_on_the_trail_is_filled(self):
        seen = set()
        for lot, order, rows, ends in EXAMPLES:
            trail = trail_for(lot, order, rows, ends)
            for times in (1, 2):
                letters = letter_texts(trail.turns[0][0], lot, times)
                self.check_stages(trail, letters, lot)
            for _, step, guess in trail.turns:
                seen.add(step[0])
                seen.update("new " + new[0] for new in guess.news)
                if guess.spares:
                    seen.add("spare")
                numbers = whole(guess.equations).numbers
                given = [form for front, _, back in guess.parts for _, form in front + back]
                if any(form_value(form, numbers) > 1 for form in given):
                    seen.add("long block")
                if any(numbers):
                    seen.add("numbers")
                if guess.equations:
                    seen.add("equations")
        self.assertEqual(seen, {"first", "pair", "block", "new pair", "new row", "new free", "spare", "long block",
                                "numbers", "equations"})

    def test_both_ways_of_a_net(self):
        for rows in (("XY=YX",), ("bXaab=bYY",), ("XXaY=ZbaX",)):
            for backward in (False, True):
                net = Net([root_of(AB, *rows)], AB, "last", room=300, backward=backward)
                net.run(400)
                trail = trail_of(net)
                self.check_stages(trail, letter_texts(trail.turns[0][0], AB), AB)

    def test_what_each_unknown_is_made_of(self):
        trail = trail_for(ONE, "first", ("aX=Xa",))
        told = self.check_stages(trail, ["ba"], ONE)
        texts = [told.grammar.plain_text(word, 100) for word in told.stages[0][1]]
        self.assertEqual(texts, ["ba"])

    def test_a_spare_has_the_first_text_of_its_ends(self):
        trail = trail_for(ONE, "last", ("bXY=YXb",))
        told = self.check_stages(trail, ["b"], ONE)
        spare = [(stage, guess) for stage, (_, _, guess) in zip(told.stages, trail.turns) if guess.spares]
        self.assertTrue(spare)
        for (symbols, words), guess in spare:
            for number, ends in guess.spares:
                front, stays, back = guess.parts[number]
                text = ONE.path_text(ends[0], ends[1])
                self.assertTrue(stays)
                self.assertIn(text, told.grammar.plain_text(words[number], 100))
                self.assertEqual(told.grammar.word_length(words[number]), len(front) + len(back) + len(text))

    def test_long_letters(self):
        trail = trail_for(ONE, "first", ("bXaab=bYY",))
        self.check_stages(trail, ["a" * 400, "b" * 400], ONE)

    def test_texts_that_double(self):
        # Each row doubles: X1 = a a, and what one row makes the next one writes twice.
        rows = tuple(((-1 - at, ), (0, 0) if at == 0 else (-at, -at)) for at in range(3))
        root = Book(rows, [ONE.letter_deed("a")], [(0, (0,))] * 3, 1)
        net = Net([root], ONE, room=300)
        net.run(400)
        trail = trail_of(net)
        told = self.check_stages(trail, ["ab"], ONE)
        self.assertEqual([told.grammar.word_length(word) for word in told.stages[0][1]], [4 * 2 ** at for at in range(3)])

    def test_giant_values(self):
        # What unfolding reads of these turns is handmade: a block of 10 ** 30, and a row of 10 ** 30 such blocks.
        book = Book([((-1,), (0, 0))], [(0,)], [(0, (0,))], 1)
        stays = Guess((((), True, ()),), (("row", 0, (10 ** 30, ())),), book, (1,), (0,), (), ())
        front = ((0, (10 ** 30 - 7, (1, 0))), (0, (1, (0, 1))))
        gone = Guess(((front, False, ((0, (2, (0, 0))),)),), (), book, (), (), (), ((-4, (1, 0)),))
        trail = Trail(0, ((book, ("block", (0,)), stays), (book, ("block", (0,)), gone)))
        told = unfold_stages(trail, ("ab",), ONE)
        lengths = [told.grammar.word_length(words[0]) for _, words in told.stages]
        self.assertEqual(lengths, [2 * 10 ** 60] * 2)
        self.assertEqual([told.grammar.word_length(symbols) for symbols, _ in told.stages], [2, 2 * 10 ** 30])
        filling = unfold(trail, ("ab",), ("?x",), (), (), ONE)
        self.assertEqual(filling.grammar.letters_in(filling.word_of("?x")), (("a", 10 ** 60), ("b", 10 ** 60)))

    def test_no_turns(self):
        told = unfold_stages(Trail(0, ()), (), ONE)
        self.assertEqual(told.stages, ())
        self.assertIs(type(told.grammar), Grammar)


class UnfoldTest(unittest.TestCase):
    def test_the_names(self):
        for lot, order, rows, ends in EXAMPLES:
            trail = trail_for(lot, order, rows, ends)
            book = trail.turns[0][0]
            letters = letter_texts(book, lot)
            stages = unfold_stages(trail, letters, lot)
            unknowns = ("?z", "?1", "?m")[:len(book.ends)]
            every = (0, tuple(range(lot.states)))
            filling = unfold(trail, letters, unknowns, (("?s", every), ("?r", every)), ("?q", "?e"), lot)
            self.assertIs(type(filling), Filling)
            texts = dict(filling.texts(1000))
            self.assertEqual(filling.names, tuple(sorted(unknowns + ("?e", "?q", "?r", "?s"))))
            self.assertEqual((texts["?e"], texts["?q"]), ("", ""))
            self.assertEqual((texts["?r"], texts["?s"]), (lot.path_text(0, every[1]),) * 2)
            for name, word in zip(unknowns, stages.stages[0][1]):
                self.assertEqual(texts[name], stages.grammar.plain_text(word, 1000))
            kept = trimmed_grammar(filling.grammar, [word for _, word in filling.words])
            self.assertEqual(kept, (filling.grammar, tuple(word for _, word in filling.words)))

    def test_spares_by_their_ends(self):
        spares = [("?b", (0, (2,))), ("?a", (0, (1, 2)))]
        filling = unfold(Trail(0, ()), (), (), spares, ["?c"], AB)
        self.assertEqual(filling.texts(9), (("?a", "a"), ("?b", "ab"), ("?c", "")))

    def test_no_turns(self):
        self.assertEqual(unfold(Trail(0, ()), (), (), (), (), ONE), filling_of(()))
        filling = unfold(Trail(0, ()), [], [], [], ["?b", "?a"], ONE)
        self.assertEqual(filling, Filling(Grammar(()), [("?a", ()), ("?b", ())]))


if __name__ == "__main__":
    unittest.main()
