"""Books of equations [1.1 to 1.6], and what counts as a whole number and a sequence [0.1]."""

from pressedwords.errors import BadBook


def is_whole(thing):
    """Whether this is a whole number; True and False are none."""
    return isinstance(thing, int) and not isinstance(thing, bool)


def is_sequence(thing):
    """Whether this is a list or a tuple."""
    return isinstance(thing, (list, tuple))


def is_couple(thing):
    return is_sequence(thing) and len(thing) == 2


def is_state(thing, states):
    return is_whole(thing) and 0 <= thing < states


def is_deed(thing, states):
    # The length comes first: states may be huge, and is never gone through.
    return is_sequence(thing) and len(thing) == states and all([is_state(state, states) for state in thing])


def is_goals(thing, states):
    if not is_sequence(thing) or not all([is_state(state, states) for state in thing]):
        return False
    return all([thing[at - 1] < thing[at] for at in range(1, len(thing))])


def is_ends(thing, states):
    return is_couple(thing) and is_state(thing[0], states) and is_goals(thing[1], states)


def is_side(thing):
    return is_sequence(thing) and all([is_whole(sign) for sign in thing])


def is_row(thing):
    return is_couple(thing) and is_side(thing[0]) and is_side(thing[1])


def sign_stands(sign, letters, unknowns):
    """Whether a sign is one of so many letters and unknowns."""
    return sign < letters if sign >= 0 else -1 - sign < unknowns


class Book:
    """Rows of signs whose sides are to become the same texts, with the deeds and ends of the signs."""

    def __init__(self, rows, deeds, ends, states=1):
        if not is_whole(states) or states < 1:
            raise BadBook("states")
        if not is_sequence(deeds) or not all([is_deed(deed, states) for deed in deeds]):
            raise BadBook("deeds")
        if not is_sequence(ends) or not all([is_ends(one, states) for one in ends]):
            raise BadBook("ends")
        if not is_sequence(rows) or not all([is_row(row) for row in rows]):
            raise BadBook("rows")
        if not all([sign_stands(sign, len(deeds), len(ends)) for row in rows for side in row for sign in side]):
            raise BadBook("sign")
        self.rows = tuple([(tuple(left), tuple(right)) for left, right in rows])
        self.deeds = tuple([tuple(deed) for deed in deeds])
        self.ends = tuple([(start, tuple(goals)) for start, goals in ends])
        self.states = states

    @property
    def key(self):
        return (self.rows, self.deeds, self.ends, self.states)

    def __eq__(self, other):
        return (isinstance(other, Book) and self.rows == other.rows and self.deeds == other.deeds
                and self.ends == other.ends and self.states == other.states)


class Clash:
    """Why a book has no filling: at is a row's number, for the why "state" an unknown's."""

    def __init__(self, why, at):
        self.why = why
        self.at = at

    def __eq__(self, other):
        return isinstance(other, Clash) and self.why == other.why and self.at == other.at


def letter_places(book):
    """At how many places of the rows letters stand."""
    return len([sign for row in book.rows for side in row for sign in side if sign >= 0])


def unknown_places(book):
    """At how many places of the rows unknowns stand."""
    return len([sign for row in book.rows for side in row for sign in side if sign < 0])


def size_bound(book):
    """The most letter places that books have to which told steps lead from this one."""
    return max(letter_places(book), 17 * unknown_places(book) + 2 * len(book.rows))


def neighbours(book):
    """Couples of letters that stand side by side, each with the number of its places, ascending."""
    many = {}
    for row in book.rows:
        for side in row:
            for at in range(1, len(side)):
                couple = (side[at - 1], side[at])
                if couple[0] >= 0 and couple[1] >= 0:
                    many[couple] = many.get(couple, 0) + 1
    return tuple([(couple, many[couple]) for couple in sorted(many)])
