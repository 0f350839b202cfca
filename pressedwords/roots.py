"""Roots: the books with which the search of a case begins [14.6]."""

from pressedwords.books import Book
from pressedwords.expressions import OUTER_LETTERS
from pressedwords.settling import start_of


class Root:
    """What start_of tells of a case whose names in empties have the empty text, in the words of the case."""

    def __init__(self, told, letters, unknowns, spares, empties):
        self.told = told
        self.letters = letters
        self.unknowns = unknowns
        self.spares = spares
        self.empties = empties

    def __eq__(self, other):
        return (isinstance(other, Root) and self.told == other.told and self.letters == other.letters
                and self.unknowns == other.unknowns and self.spares == other.spares
                and self.empties == other.empties)


def roots_of(case, expressions, watcher, lot):
    """The roots of a case, one for each choice of names with the empty text."""
    names = case.names
    goals = {name: goals_of(name, case, expressions, watcher) for name in names}
    # The sums of 2 ** j ascend if the subsets with the next name come behind all those without it.
    subsets = [()]
    for name in names:
        if name not in case.full and 0 in goals[name]:
            subsets = subsets + [subset + (name,) for subset in subsets]
    return tuple([root_of(case, empties, goals, lot) for empties in subsets])


def goals_of(name, case, expressions, watcher):
    """The states to which the sets of a case let the text of a name lead."""
    wanted = [(expressions.index(expression), truth) for named, expression, truth in case.sets if named == name]
    return watcher.goals_where(wanted)


def root_of(case, empties, goals, lot):
    """The root of a case whose names in empties have the empty text."""
    full = [name for name in case.names if name not in empties]
    signs = {letter: number for number, letter in enumerate(lot.letters)}
    for number, name in enumerate(full):
        signs[name] = -1 - number
    rows = [tuple([tuple([signs[item] for item in side if item in signs]) for side in row]) for row in case.rows]
    deeds = [lot.letter_deed(letter) for letter in lot.letters]
    settled = start_of(Book(rows, deeds, [(0, goals[name]) for name in full], lot.states), lot)
    letters = tuple([OUTER_LETTERS[number] for number in settled.letters])
    unknowns = tuple([full[number] for number in settled.unknowns])
    spares = tuple([(full[number], ends) for number, ends in settled.spares])
    return Root(settled.told, letters, unknowns, spares, empties)
