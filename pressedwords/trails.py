"""Trails to the empty book, and faults of nets [9.11, 9.12]."""

from pressedwords.errors import NotFilled
from pressedwords.settling import start_of
from pressedwords.stepping import guesses_of
from pressedwords.steps import told_step


class Trail:
    """The way from a root to the empty book: root is the root's index, turns are triples (book, step, guess)."""

    def __init__(self, root, turns):
        self.root = root
        self.turns = turns

    def __eq__(self, other):
        return isinstance(other, Trail) and self.root == other.root and self.turns == other.turns


def trail_of(net):
    """The Trail of a filled net."""
    if net.filled is None:
        raise NotFilled()
    turns = []
    first = net.filled
    # The way is gone backward, so that the first book on it comes last.
    for number, place in net.way_to(net.filled)[::-1]:
        book = net.books[number]
        turns.append((book, told_step(book), guess_at(book, place, net.lot)))
        first = number
    return Trail(net.rooted.index(first), tuple(turns[::-1]))


def guess_at(book, place, lot):
    """The guess at this place of the look at a book, or None."""
    step = told_step(book)
    for at, guess in enumerate(guesses_of(book, step, lot)):
        if at == place:
            return guess
    return None


def net_fault(net):
    """What is wrong with a net, or None; everything is worked out anew."""
    dues = {}
    fault = book_fault(net)
    if fault is None:
        fault = known_fault(net)
    if fault is None:
        fault = look_fault(net, dues)
    return way_fault(net, dues) if fault is None else fault


def book_fault(net):
    """The least listed book that has an alien deed or is not settled."""
    for number, book in enumerate(net.books):
        if any([net.lot.text_of(deed) is None for deed in book.deeds]) or start_of(book, net.lot).told != book:
            return ("book", number)
    return None


def known_fault(net):
    """The least book that is counted as borrowed and should not be, or the other way round."""
    borrowed = net.borrowed
    for number, book in enumerate(net.books):
        if (number in borrowed) != (len(book.rows) > 0 and book.key in net.known_keys):
            return ("known", number)
    return None


def due_outcomes(net, number, dues):
    """How many outcomes the look at a book has, and a dict of those that are books; dues keeps what was worked out."""
    if number not in dues:
        book = net.books[number]
        many, couples, _ = net.outcome_books(book) if book.rows else (0, [], [])
        dues[number] = (many, dict(couples))
    return dues[number]


def look_fault(net, dues):
    """The least looked book with a wrong outcome, and its least place."""
    for number in sorted(net.found):
        many, couples = net.found[number]
        due_many, due = due_outcomes(net, number, dues)
        kept = {place: net.books[told] for place, told in couples}
        wrong = [place for place in list(kept) + list(due) if kept.get(place) != due.get(place)]
        if many != due_many:
            # Here the first outcome is missing or one too many.
            wrong.append(min(many, due_many))
        if wrong:
            return ("look", number, min(wrong))
    return None


def way_fault(net, dues):
    """The least book that is no root book and is not the outcome at the last couple of its way."""
    for number, way in enumerate(net.ways):
        if way is not None:
            _, due = due_outcomes(net, way[0], dues)
            if due.get(way[1]) != net.books[number]:
                return ("way", number)
    return None
