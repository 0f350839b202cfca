"""Grammars: rows of rules that stand for long texts [11.1 to 11.8]."""

from pressedwords.books import is_sequence, is_whole
from pressedwords.errors import BadGrammar, EmptyWord, NoCut, NoSign, NoSymbol, TooLong
from pressedwords.expressions import OUTER_LETTERS

LONGEST_TEXT = 400
MOST_TIMES = 10 ** 62


class Grammar:
    """Rules, each of which stands for a text; lengths has the length of each rule's text."""

    def __init__(self, rules):
        if not is_sequence(rules):
            raise BadGrammar(None)
        for at, rule in enumerate(rules):
            if not is_rule(rule, at):
                raise BadGrammar(at)
        self.rules = tuple([tuple(list(rule)) for rule in rules])
        lengths = []
        for rule in self.rules:
            lengths.append(rule_length(rule, lengths))
        self.lengths = tuple(lengths)

    def __eq__(self, other):
        return isinstance(other, Grammar) and self.rules == other.rules

    def word_length(self, word):
        """The length of a word's text."""
        check_word(self, word)
        return sum([self.lengths[symbol] for symbol in word])

    def letters_in(self, word):
        """Couples of a letter that occurs in the word's text and how often it does, ascending."""
        check_word(self, word)
        times = symbol_times(self, word)
        many = {}
        for symbol, rule in enumerate(self.rules):
            if rule[0] == "text" and times[symbol] > 0:
                for letter in OUTER_LETTERS:
                    many[letter] = many.get(letter, 0) + times[symbol] * rule[1].count(letter)
        return tuple([(letter, many[letter]) for letter in sorted(many) if many[letter] > 0])

    def letter_at(self, word, at):
        """The sign at a place of the word's text."""
        length = self.word_length(word)
        if not is_whole(at) or not 0 <= at < length:
            raise NoSign(at)
        place = 0
        while at >= self.lengths[word[place]]:
            at -= self.lengths[word[place]]
            place += 1
        return letter_below(self, word[place], at)

    def plain_text(self, word, room):
        """The word's text, if it has at most room signs."""
        length = self.word_length(word)
        if length > room:
            raise TooLong(length)
        pieces = []
        waiting = list(word)[::-1]
        while waiting:
            rule = self.rules[waiting.pop()]
            if rule[0] == "text":
                pieces.append(rule[1])
            elif rule[0] == "pair":
                waiting.extend([rule[2], rule[1]])
            elif self.rules[rule[1]][0] == "text":
                pieces.append(self.rules[rule[1]][1] * rule[2])
            else:
                waiting.extend([rule[1]] * rule[2])
        return "".join(pieces)


def is_rule(thing, at):
    """Whether this may be the rule with this number."""
    if not is_sequence(thing) or len(thing) < 2 or not isinstance(thing[0], str):
        return False
    if thing[0] == "text":
        return len(thing) == 2 and is_text(thing[1])
    if len(thing) != 3 or not is_whole(thing[1]) or not 0 <= thing[1] < at or not is_whole(thing[2]):
        return False
    if thing[0] == "pair":
        return 0 <= thing[2] < at
    return thing[0] == "row" and 1 <= thing[2] <= MOST_TIMES


def is_text(thing):
    """Whether this is a string of 1 to 400 outer letters."""
    if not isinstance(thing, str) or not 1 <= len(thing) <= LONGEST_TEXT:
        return False
    return all([letter in OUTER_LETTERS for letter in thing])


def rule_length(rule, lengths):
    """The length of a rule's text, if those of the earlier rules are these."""
    if rule[0] == "text":
        return len(rule[1])
    if rule[0] == "pair":
        return lengths[rule[1]] + lengths[rule[2]]
    return lengths[rule[1]] * rule[2]


def check_word(grammar, word):
    """Asks for a word of the grammar."""
    if not is_sequence(word):
        raise NoSymbol(word)
    for symbol in word:
        if not is_whole(symbol) or not 0 <= symbol < len(grammar.rules):
            raise NoSymbol(symbol)


def symbol_times(grammar, word):
    """For each rule how often its text is written in the word's, as the rules tell."""
    times = [0 for _ in grammar.rules]
    for symbol in word:
        times[symbol] += 1
    for symbol in range(len(times) - 1, -1, -1):
        rule = grammar.rules[symbol]
        many = times[symbol]
        # Sums are written out, since `+=` may not take what comes from the very list that it changes.
        if rule[0] == "pair":
            times[rule[1]] = times[rule[1]] + many
            times[rule[2]] = times[rule[2]] + many
        elif rule[0] == "row":
            times[rule[1]] = times[rule[1]] + many * rule[2]
    return times


def letter_below(grammar, symbol, at):
    """The sign at a place of a symbol's text."""
    rule = grammar.rules[symbol]
    while rule[0] != "text":
        if rule[0] == "row":
            at = at % grammar.lengths[rule[1]]
            symbol = rule[1]
        elif at < grammar.lengths[rule[1]]:
            symbol = rule[1]
        else:
            at -= grammar.lengths[rule[1]]
            symbol = rule[2]
        rule = grammar.rules[symbol]
    return rule[1][at]


def word_symbol(grammar, word):
    """A grammar that goes on from this one, and a symbol of it with the word's text."""
    check_word(grammar, word)
    if len(word) == 0:
        raise EmptyWord()
    rules = list(grammar.rules)
    symbol = word[0]
    for then in word[1:]:
        rules.append(("pair", symbol, then))
        symbol = len(rules) - 1
    return Grammar(rules), symbol


def joined_grammars(one, other):
    """The rules of one, then those of the other with their symbols raised."""
    symbols = [len(one.rules) + symbol for symbol in range(len(other.rules))]
    return Grammar(one.rules + tuple([moved_rule(rule, symbols) for rule in other.rules]))


def moved_rule(rule, symbols):
    """The rule with these symbols in the place of the old ones."""
    if rule[0] == "text":
        return rule
    if rule[0] == "pair":
        return ("pair", symbols[rule[1]], symbols[rule[2]])
    return ("row", symbols[rule[1]], rule[2])


def trimmed_grammar(grammar, words):
    """The rules that some word needs, and the words in the new symbols."""
    for word in words:
        check_word(grammar, word)
    times = symbol_times(grammar, [symbol for word in words for symbol in word])
    rules = []
    symbols = []
    for symbol, rule in enumerate(grammar.rules):
        symbols.append(len(rules))
        if times[symbol] > 0:
            rules.append(moved_rule(rule, symbols))
    return Grammar(rules), tuple([tuple([symbols[symbol] for symbol in word]) for word in words])


def cut_word(grammar, word, begin, end):
    """A grammar that goes on from this one, and a word whose text is a part of the given word's."""
    length = grammar.word_length(word)
    if not is_whole(begin) or not is_whole(end) or not 0 <= begin <= end <= length:
        raise NoCut(begin, end)
    rules = list(grammar.rules)
    lengths = list(grammar.lengths)
    # Triples of a symbol and the places of its text at which it is cut; the last one is cut first.
    waiting = word_cuts(word, lengths, begin, end)[::-1]
    cut = []
    while waiting:
        symbol, first, last = waiting.pop()
        if last - first == lengths[symbol]:
            cut.append(symbol)
        elif rules[symbol][0] == "text":
            cut.append(len(rules))
            rules.append(("text", rules[symbol][1][first:last]))
            lengths.append(last - first)
        elif rules[symbol][0] == "pair":
            waiting.extend(word_cuts(rules[symbol][1:], lengths, first, last)[::-1])
        else:
            waiting.extend(row_cuts(rules, lengths, rules[symbol][1], first, last)[::-1])
    return Grammar(rules), tuple(cut)


def word_cuts(word, lengths, begin, end):
    """The symbols of a word from a place to another one, each with the places at which it is cut."""
    cuts = []
    at = 0
    for symbol in word:
        first = max(begin - at, 0)
        last = min(end - at, lengths[symbol])
        if first < last:
            cuts.append((symbol, first, last))
        at += lengths[symbol]
    return cuts


def row_cuts(rules, lengths, symbol, begin, end):
    """The same of a row of one symbol; a rule is added for the copies of it that are not cut."""
    length = lengths[symbol]
    first = begin // length
    last = (end - 1) // length
    if first == last:
        return [(symbol, begin - first * length, end - first * length)]
    cuts = [(symbol, begin - first * length, length)]
    whole = last - first - 1
    if whole == 1:
        cuts.append((symbol, 0, length))
    elif whole > 1:
        cuts.append((len(rules), 0, whole * length))
        rules.append(("row", symbol, whole))
        lengths.append(whole * length)
    return cuts + [(symbol, 0, end - last * length)]
