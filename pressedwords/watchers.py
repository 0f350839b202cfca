"""Watchers, which read texts and tell which expressions have them [3.7 to 3.9]."""

from pressedwords.expressions import OUTER_LETTERS, alphabet_of
from pressedwords.machines import BEGINNING, Machine


class Watcher:
    """States, the moves between them on each letter, and for each expression the states that take a text."""

    def __init__(self, letters, moves, ends):
        self.letters = letters
        self.moves = moves
        self.ends = ends
        self.states = len(moves)

    def __eq__(self, other):
        return (isinstance(other, Watcher) and self.letters == other.letters
                and self.moves == other.moves and self.ends == other.ends)

    def state_after(self, text, state=0):
        """The state in which reading the text from a state ends."""
        for letter in text:
            state = self.moves[state][OUTER_LETTERS.index(letter)]
        return state

    def takes(self, number, text):
        """Whether the expression with this number has the text."""
        return self.state_after(text) in self.ends[number]

    def goals_where(self, wanted):
        """The states that take a text for the numbers beside True, and do not for those beside False."""
        return tuple([state for state in range(self.states)
                      if all([(state in self.ends[number]) == truth for number, truth in wanted])])

    def reach_text(self, state):
        """The first text that leads state 0 to this state, or None."""
        return first_text(self, (0,), lambda group: group == (state,))

    def apart_text(self, state, other):
        """The first text behind which exactly one of both states takes for some expression, or None."""
        return first_text(self, (state, other), lambda group: number_apart(self, group[0], group[1]) is not None)


def first_text(watcher, group, wanted):
    """The first text that leads the states of a group to a group that is wanted, or None."""
    alphabet = alphabet_of(watcher.letters)
    texts = {group: ""}
    waiting = [group]
    at = 0
    # Groups come in the order of their first texts, since shorter texts are gone on from before longer ones.
    while at < len(waiting):
        group = waiting[at]
        if wanted(group):
            return texts[group]
        for number, letter in enumerate(alphabet):
            moved = tuple([watcher.moves[state][number] for state in group])
            if moved not in texts:
                texts[moved] = texts[group] + letter
                waiting.append(moved)
        at += 1
    return None


def number_apart(watcher, state, other):
    """The least number of an expression for which exactly one of both states takes, or None."""
    for number, ends in enumerate(watcher.ends):
        if (state in ends) != (other in ends):
            return number
    return None


def watcher_of(expressions, letters):
    """The least Watcher of these expressions, its states numbered in the order of their first texts."""
    alphabet = alphabet_of(letters)
    machines = [Machine(expression) for expression in expressions]
    groups, moves = groups_reached(machines, alphabet)
    takes = [tuple([machine.takes(places) for machine, places in zip(machines, group)]) for group in groups]
    kinds = kinds_apart(moves, takes)
    # The first group of each kind stands for it, so kinds keep the order of the groups.
    firsts = [kinds.index(kind) for kind in range(max(kinds) + 1)]
    least = tuple([tuple([kinds[behind] for behind in moves[first]]) for first in firsts])
    ends = [tuple([kind for kind, first in enumerate(firsts) if takes[first][number]])
            for number in range(len(machines))]
    return Watcher(letters, least, tuple(ends))


def groups_reached(machines, alphabet):
    """All groups of places to which texts lead the machines, and for each the numbers of those behind it."""
    groups = [tuple([BEGINNING for _ in machines])]
    numbers = {groups[0]: 0}
    moves = []
    while len(moves) < len(groups):
        group = groups[len(moves)]
        row = []
        for letter in alphabet:
            moved = tuple([machine.after(places, letter) for machine, places in zip(machines, group)])
            if moved not in numbers:
                numbers[moved] = len(groups)
                groups.append(moved)
            row.append(numbers[moved])
        moves.append(row)
    return groups, moves


def kinds_apart(moves, takes):
    """For each group the number of its kind: groups are of one kind if no text tells them apart."""
    kinds = numbered(takes)
    while True:
        keys = [(kinds[at],) + tuple([kinds[behind] for behind in row]) for at, row in enumerate(moves)]
        finer = numbered(keys)
        if max(finer) == max(kinds):
            return finer
        kinds = finer


def numbered(keys):
    """For each key the number of its first place among the unlike keys."""
    numbers = {}
    for key in keys:
        if key not in numbers:
            numbers[key] = len(numbers)
    return [numbers[key] for key in keys]


def text_apart(expression, other, letters):
    """The first text that exactly one of both expressions has, or None."""
    watcher = watcher_of((expression, other), letters)
    # States stand in the order of their first texts.
    for state in range(watcher.states):
        if (state in watcher.ends[0]) != (state in watcher.ends[1]):
            return watcher.reach_text(state)
    return None
