"""Fillings: texts of names, written as words of one grammar [12.1 to 12.7]."""

from pressedwords.books import is_couple, is_sequence
from pressedwords.errors import BadFilling, NoName, NoSymbol, TooLong
from pressedwords.expressions import OUTER_LETTERS, alphabet_of
from pressedwords.grammars import Grammar, check_word, is_text, joined_grammars, trimmed_grammar
from pressedwords.machines import BEGINNING, Machine, leads_along, leads_times, places_behind
from pressedwords.pressing import press_words, same_text
from pressedwords.sayings import LONGEST_NAME, is_name, names_of

FIGURES = "0123456789"


class Filling:
    """A word of the grammar for each name; words are couples of a name and its word, ascending by name."""

    def __init__(self, grammar, words):
        if not is_sequence(words):
            raise BadFilling(None)
        kept = []
        for at, couple in enumerate(words):
            if not goes_on(couple, kept) or not is_word(couple[1], grammar):
                raise BadFilling(at)
            kept.append((couple[0], tuple(list(couple[1]))))
        self.grammar = grammar
        self.words = tuple(kept)

    def __eq__(self, other):
        return isinstance(other, Filling) and self.grammar == other.grammar and self.words == other.words

    @property
    def names(self):
        return tuple([name for name, _ in self.words])

    def word_of(self, name):
        """The word of a name."""
        for known, word in self.words:
            if known == name:
                return word
        raise NoName(name)

    def texts(self, room):
        """Couples of a name and its text, if each text has at most room signs."""
        for _, word in self.words:
            length = self.grammar.word_length(word)
            if length > room:
                raise TooLong(length)
        return tuple([(name, self.grammar.plain_text(word, room)) for name, word in self.words])


def goes_on(thing, kept):
    """Whether this is a couple of a name, which is greater than the last one kept, and something else."""
    if not is_couple(thing) or not (is_name(thing[0]) or is_fresh_name(thing[0])):
        return False
    return not kept or kept[-1][0] < thing[0]


def is_fresh_name(thing):
    """Whether this is a name of figures, as cases make them."""
    if not isinstance(thing, str) or thing[:1] != "?" or not 1 <= len(thing) - 1 <= LONGEST_NAME:
        return False
    return all([sign in FIGURES for sign in thing[1:]])


def is_word(thing, grammar):
    try:
        check_word(grammar, thing)
    except NoSymbol:
        return False
    return True


def filling_of(texts):
    """The Filling of these couples of a name and a text."""
    if not is_sequence(texts):
        raise BadFilling(None)
    rules = []
    words = []
    for at, couple in enumerate(texts):
        if not goes_on(couple, words) or not (couple[1] == "" or is_text(couple[1])):
            raise BadFilling(at)
        words.append((couple[0], () if couple[1] == "" else (len(rules),)))
        if couple[1] != "":
            rules.append(("text", couple[1]))
    return Filling(Grammar(rules), words)


def same_filling(one, other):
    """Whether both have the same names with the same texts."""
    if one.names != other.names:
        return False
    grammar = joined_grammars(one.grammar, other.grammar)
    words = [word for _, word in one.words]
    raised = [tuple([len(one.grammar.rules) + symbol for symbol in word]) for _, word in other.words]
    ends = press_words(grammar, words + raised).ends
    return ends[:len(words)] == ends[len(words):]


def chosen_filling(filling, names):
    """The filling of these names alone."""
    words = {name: filling.word_of(name) for name in names}
    chosen = sorted(words)
    grammar, trimmed = trimmed_grammar(filling.grammar, [words[name] for name in chosen])
    return Filling(grammar, list(zip(chosen, trimmed)))


def filled_word(filling, side):
    """A grammar that goes on from the filling's, and a word with the side's text."""
    grammar, words = filled_words(filling, (side,))
    return grammar, words[0]


def filled_words(filling, sides):
    """A grammar that goes on from the filling's, and a word for each side."""
    rules = list(filling.grammar.rules)
    letters = {}
    words = []
    for side in sides:
        word = []
        for item in side:
            if item[0] == "?":
                word.extend(list(filling.word_of(item)))
            else:
                if item not in letters:
                    letters[item] = len(rules)
                    rules.append(("text", item))
                word.append(letters[item])
        words.append(tuple(word))
    return Grammar(rules), words


def saying_true(filling, saying):
    """Whether the saying holds for the filling's texts."""
    for name in names_of(saying):
        filling.word_of(name)
    return is_true(filling, saying)


def is_true(filling, saying):
    """The same, when no name is missing."""
    word = saying[0]
    if word == "alike":
        grammar, words = filled_words(filling, saying[1:])
        return same_text(grammar, words[0], words[1])
    if word == "in":
        grammar, filled = filled_word(filling, saying[1])
        return has_text(saying[2], grammar, filled)
    if word == "not":
        return not is_true(filling, saying[1])
    truths = [is_true(filling, part) for part in saying[1:]]
    return all(truths) if word == "and" else any(truths)


def has_text(expression, grammar, word):
    """Whether the expression has the word's text, read by what each rule does to the places of the expression."""
    trimmed, words = trimmed_grammar(grammar, (word,))
    machine = Machine(expression)
    letter_leads = {letter: machine.letter_leads(letter) for letter in OUTER_LETTERS}
    leads = []
    for rule in trimmed.rules:
        if rule[0] == "text":
            leads.append(leads_along([letter_leads[letter] for letter in rule[1]]))
        elif rule[0] == "pair":
            leads.append(leads_along([leads[rule[1]], leads[rule[2]]]))
        else:
            leads.append(leads_times(leads[rule[1]], rule[2]))
    places = BEGINNING
    for symbol in words[0]:
        places = places_behind(places, leads[symbol])
    return machine.takes(places)


def judge_filling(sayings, letters, filling):
    """Why the filling does not make all sayings hold, or None."""
    missing = [name for saying in sayings for name in names_of(saying) if name not in filling.names]
    if missing:
        return ("name", min(missing))
    alphabet = alphabet_of(letters)
    for name, word in filling.words:
        if not all([letter in alphabet for letter, _ in filling.grammar.letters_in(word)]):
            return ("letter", name)
    for at, saying in enumerate(sayings):
        if not is_true(filling, saying):
            return ("saying", at)
    return None
