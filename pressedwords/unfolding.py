"""Fillings out of trails: from behind, a trail fills every book on it [12.8 to 12.10]."""

from pressedwords.carries import whole
from pressedwords.fillings import Filling
from pressedwords.forms import form_value
from pressedwords.grammars import Grammar, trimmed_grammar


class Stages:
    """For each turn of a trail a symbol for each letter of its book and a word for each unknown."""

    def __init__(self, grammar, stages):
        self.grammar = grammar
        self.stages = stages

    def __eq__(self, other):
        return isinstance(other, Stages) and self.grammar == other.grammar and self.stages == other.stages


class Unfolding:
    """The rules that grow as a trail is unfolded."""

    def __init__(self, lot):
        self.lot = lot
        self.rules = []
        self.made = {}

    def symbol_of(self, rule):
        """The symbol of this rule, which is added if it is new."""
        if rule not in self.made:
            self.made[rule] = len(self.rules)
            self.rules.append(rule)
        return self.made[rule]

    def times(self, symbol, many):
        """A symbol for the text of another one, many times."""
        return symbol if many == 1 else self.symbol_of(("row", symbol, many))

    def with_news(self, symbols, guess, numbers):
        """The symbols of a book's letters and behind them those of the guess's new letters."""
        grown = list(symbols)
        for new in guess.news:
            if new[0] == "pair":
                grown.append(self.symbol_of(("pair", symbols[new[1]], symbols[new[2]])))
            elif new[0] == "row":
                grown.append(self.times(symbols[new[1]], form_value(new[2], numbers)))
            else:
                grown.append(self.symbol_of(("text", self.lot.text_of(new[1]))))
        return tuple(grown)

    def ends_word(self, ends):
        """The word of an unknown that stands in no row."""
        start, goals = ends
        return (self.symbol_of(("text", self.lot.path_text(start, goals))),)

    def words_ahead(self, guess, symbols, numbers, words):
        """The words of the unknowns of a guess's parent, if those of the guess's book are these."""
        behind = {number: words[at] for at, number in enumerate(guess.unknowns)}
        for number, ends in guess.spares:
            behind[number] = self.ends_word(ends)
        ahead = []
        for number, (front, stays, back) in enumerate(guess.parts):
            rest = behind[number] if stays else ()
            ahead.append(self.given_up(front, symbols, numbers) + rest + self.given_up(back, symbols, numbers))
        return tuple(ahead)

    def given_up(self, couples, symbols, numbers):
        """The word of letters that are given up."""
        return tuple([self.times(symbols[letter], form_value(form, numbers)) for letter, form in couples])


def unfold_stages(trail, letters, lot):
    """The Stages of a trail, the letters of whose first book have these texts."""
    unfolding = Unfolding(lot)
    stages = stages_of(unfolding, trail, letters)
    return Stages(Grammar(unfolding.rules), stages)


def stages_of(unfolding, trail, letters):
    """A couple (symbols, words) for each turn of the trail."""
    symbols = tuple([unfolding.symbol_of(("text", text)) for text in letters])
    seen = []
    for _, _, guess in trail.turns:
        numbers = whole(guess.equations).numbers
        grown = unfolding.with_news(symbols, guess, numbers)
        seen.append((guess, symbols, grown, numbers))
        symbols = tuple([grown[number] for number in guess.letters])
    # The book behind the last turn has no unknowns, and each book's words come of those of the book behind it.
    words = ()
    stages = []
    for guess, symbols, grown, numbers in seen[::-1]:
        words = unfolding.words_ahead(guess, grown, numbers, words)
        stages.append((symbols, words))
    return tuple(stages[::-1])


def unfold(trail, letters, unknowns, spares, empties, lot):
    """The Filling of a trail, with texts for these names of unknowns, of spares and of empty texts."""
    unfolding = Unfolding(lot)
    stages = stages_of(unfolding, trail, letters)
    words = {name: () for name in empties}
    for at, name in enumerate(unknowns):
        words[name] = stages[0][1][at]
    for name, ends in spares:
        words[name] = unfolding.ends_word(ends)
    names = sorted(words)
    grammar, trimmed = trimmed_grammar(Grammar(unfolding.rules), [words[name] for name in names])
    return Filling(grammar, list(zip(names, trimmed)))
