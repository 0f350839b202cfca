"""Deeds: what texts do to the states of a watcher [4.1 to 4.5]."""

from pressedwords.books import is_whole
from pressedwords.errors import TooMany
from pressedwords.expressions import OUTER_LETTERS, alphabet_of
from pressedwords.watchers import number_apart

MOST_DEEDS = 60


class Deeds:
    """The deeds of all texts over a watcher that are not empty, each beside its first text."""

    def __init__(self, watcher, table):
        self.watcher = watcher
        self.table = table
        self.states = watcher.states
        self.letters = tuple(list(alphabet_of(watcher.letters)))

    def __eq__(self, other):
        return isinstance(other, Deeds) and self.watcher == other.watcher and self.table == other.table

    def letter_deed(self, letter):
        """The deed of an outer letter."""
        return letter_deed_over(self.watcher, letter)

    def text_deed(self, text):
        """The deed of any text."""
        return tuple([self.watcher.state_after(text, state) for state in range(self.states)])

    def text_of(self, deed):
        """The text beside a deed in the table, or None."""
        # True and False equal 1 and 0, and are no states all the same.
        if not all([is_whole(state) for state in deed]):
            return None
        for known, text in self.table:
            if known == deed:
                return text
        return None

    def reached_from(self, start):
        """The states to which texts that are not empty lead this state, ascending."""
        return tuple(sorted(set([deed[start] for deed, _ in self.table])))

    def path_text(self, start, goals):
        """The first text that is not empty and leads start to one of the goals, or None."""
        first = None
        for deed, text in self.table:
            if deed[start] in goals and (first is None or (len(text), text) < (len(first), first)):
                first = text
        return first

    def apart_in(self, deed, other):
        """Where the watcher tells texts of these deeds apart: a number, a text before and a text behind, or None."""
        for state in range(self.states):
            before = self.watcher.reach_text(state)
            if before is None:
                continue
            behind = self.watcher.apart_text(deed[state], other[state])
            if behind is not None:
                one = self.watcher.state_after(behind, deed[state])
                two = self.watcher.state_after(behind, other[state])
                return (number_apart(self.watcher, one, two), before, behind)
        return None


def letter_deed_over(watcher, letter):
    number = OUTER_LETTERS.index(letter)
    return tuple([row[number] for row in watcher.moves])


def deeds_of(watcher):
    """The Deeds of a watcher."""
    alphabet = alphabet_of(watcher.letters)
    letter_deeds = {letter: letter_deed_over(watcher, letter) for letter in alphabet}
    texts = {}
    waiting = [(letter_deeds[letter], letter) for letter in alphabet]
    at = 0
    # Texts come in their order, and the first text of a deed goes on from the first text of another deed.
    while at < len(waiting):
        deed, text = waiting[at]
        at += 1
        if deed not in texts:
            texts[deed] = text
            waiting.extend([(deed_after(deed, letter_deeds[letter]), text + letter) for letter in alphabet])
        if len(texts) > MOST_DEEDS:
            raise TooMany()
    return Deeds(watcher, tuple([(deed, texts[deed]) for deed in sorted(texts)]))


def deed_after(first, then):
    """The deed of a text of the first deed with a text of the second one behind it."""
    return tuple([then[state] for state in first])


def power_of(deed):
    """From which power on the powers of a deed come again, and after how many."""
    power = tuple(deed)
    places = {}
    many = 1
    while power not in places:
        places[power] = many
        power = deed_after(power, deed)
        many += 1
    return (places[power], many - places[power])


def deed_times(deed, many):
    """The deed of so many texts of a deed behind one another."""
    power = tuple(range(len(deed)))
    square = tuple(deed)
    while many > 0:
        if many & 1:
            power = deed_after(power, square)
        square = deed_after(square, square)
        many = many // 2
    return power
