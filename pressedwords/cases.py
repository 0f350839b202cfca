"""Cases: what texts have to keep for all sayings to hold [14.1 to 14.5]."""

from pressedwords.books import is_sequence
from pressedwords.deeds import deeds_of
from pressedwords.errors import BadSaying, TooWide
from pressedwords.expressions import alphabet_of
from pressedwords.guesses import combined
from pressedwords.sayings import check_letters, check_saying
from pressedwords.watchers import watcher_of

MOST_SAYINGS = 40
MOST_CASES = 64
MOST_NAMES = 10
FRESH = ("f", "g", "h")


class Case:
    """Rows of couples of sides, triples (name, expression, wanted), and names whose texts are not empty."""

    def __init__(self, rows, sets, full):
        self.rows = rows
        self.sets = sets
        self.full = full

    def __eq__(self, other):
        return (isinstance(other, Case) and self.rows == other.rows and self.sets == other.sets
                and self.full == other.full)

    @property
    def names(self):
        items = [item for row in self.rows for side in row for item in side]
        named = [item for item in items if item[:1] == "?"] + [name for name, _, _ in self.sets] + list(self.full)
        return tuple(sorted(set(named)))


def check_sayings(sayings, letters):
    """The sayings as a tuple of checked ones."""
    check_letters(letters)
    if not is_sequence(sayings) or len(sayings) > MOST_SAYINGS:
        raise BadSaying("many")
    return tuple([check_saying(saying, letters) for saying in sayings])


def cases_of(sayings, letters):
    """The cases of which one has to be met for all sayings to hold."""
    checked = check_sayings(sayings, letters)
    alphabet = alphabet_of(letters)
    many = 1
    for saying in checked:
        many = many * count_of(saying, True, len(alphabet))
    if many > MOST_CASES:
        raise TooWide("cases")
    cases = tuple([case_of(lines) for lines in all_choices([(saying, True) for saying in checked], alphabet)])
    if any([len(case.names) > MOST_NAMES for case in cases]):
        raise TooWide("names")
    return cases


def is_choice(saying, wanted):
    """Whether one part of a saying is enough, if the saying is to hold or, without wanted, not to hold."""
    return (saying[0] == "or") == wanted


def count_of(saying, wanted, letters):
    """How many cases a saying has that is to hold or not to hold, over so many letters."""
    if saying[0] == "alike":
        return 1 if wanted else 2 + letters * (letters - 1)
    if saying[0] == "in":
        return 1
    if saying[0] == "not":
        return count_of(saying[1], not wanted, letters)
    counts = [count_of(part, wanted, letters) for part in saying[1:]]
    if is_choice(saying, wanted):
        return sum(counts)
    many = 1
    for count in counts:
        many = many * count
    return many


# A line is a triple (rows, sets, full) as in a case, in which f, g and h stand for the fresh names. A choice is a
# tuple of lines.


def choices_of(saying, wanted, alphabet):
    """The choices of a saying that is to hold or not to hold."""
    if saying[0] == "alike":
        row = (saying[1], saying[2])
        return [(((row,), (), ()),)] if wanted else unlike_choices(saying[1], saying[2], alphabet)
    if saying[0] == "in":
        return [(set_line(saying[1], saying[2], wanted),)]
    if saying[0] == "not":
        return choices_of(saying[1], not wanted, alphabet)
    if is_choice(saying, wanted):
        return [choice for part in saying[1:] for choice in choices_of(part, wanted, alphabet)]
    return all_choices([(part, wanted) for part in saying[1:]], alphabet)


def all_choices(couples, alphabet):
    """The choices of several sayings together, each beside whether it is to hold."""
    rows = [choices_of(saying, wanted, alphabet) for saying, wanted in couples]
    return [tuple([line for choice in choices for line in choice]) for choices in combined(rows)]


def set_line(side, expression, wanted):
    """The line that asks whether the text of a side is in the set of an expression."""
    if len(side) == 1 and side[0][0] == "?":
        return ((), ((side[0], expression, wanted),), ())
    return (((side, ("f",)),), (("f", expression, wanted),), ())


def unlike_choices(one, other, alphabet):
    """The choices of two sides that are unlike."""
    choices = [((((one, other + ("f",)),), (), ("f",)),), ((((other, one + ("f",)),), (), ("f",)),)]
    for letter in alphabet:
        for then in alphabet:
            if letter != then:
                choices.append(((((one, ("f", letter, "g")), (other, ("f", then, "h"))), (), ()),))
    return choices


def case_of(lines):
    """The case of these lines, with fresh names numbered from 1."""
    rows = []
    sets = []
    full = []
    many = 0
    for line_rows, line_sets, line_full in lines:
        used = [item for row in line_rows for side in row for item in side] + [name for name, _, _ in line_sets]
        fresh = {}
        for name in FRESH:
            if name in used:
                many += 1
                fresh[name] = "?" + str(many)
        rows.extend([(renamed(one, fresh), renamed(other, fresh)) for one, other in line_rows])
        sets.extend([(fresh.get(name, name), expression, wanted) for name, expression, wanted in line_sets])
        full.extend(list(renamed(line_full, fresh)))
    return Case(tuple(rows), tuple(sets), tuple(full))


def renamed(items, fresh):
    """The items with the fresh names put in."""
    return tuple([fresh.get(item, item) for item in items])


def expressions_in(sayings):
    """The unlike expressions of the sayings, by first place."""
    found = []
    for saying in sayings:
        if saying[0] == "in":
            parts = (saying[2],)
        else:
            parts = () if saying[0] == "alike" else expressions_in(saying[1:])
        for expression in parts:
            # Expressions may nest too deep to be keys.
            if expression not in found:
                found.append(expression)
    return tuple(found)


def lot_for(sayings, letters):
    """The watcher of all expressions in the sayings, and its deeds."""
    watcher = watcher_of(expressions_in(check_sayings(sayings, letters)), letters)
    return watcher, deeds_of(watcher)
