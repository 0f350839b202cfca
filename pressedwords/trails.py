"""Trails to the empty book, and faults of nets [9.11, 9.12]."""

from pressedwords.books import Book
from pressedwords.errors import NotFilled
from pressedwords.nets import look_over
from pressedwords.settling import start_of


class Trail:
    """The way from a root to the empty book: root is the root's index, turns are triples (book, step, guess)."""

    def __init__(self, root, turns):
        self.root = root
        self.turns = turns

    def __eq__(self, other):
        return isinstance(other, Trail) and self.root == other.root and self.turns == other.turns


def trail_of(net):
    """The Trail of a filled net."""
    if net.filled is None:
        raise NotFilled()
    turns = []
    first = net.filled
    # The way is gone backward, so that the first book on it comes last.
    for number, place in net.way_to(net.filled)[::-1]:
        look = look_over(net.books[number], net.lot)
        turns.append((net.books[number], look.step, look.outcomes[place][0]))
        first = number
    return Trail(net.rooted.index(first), tuple(turns[::-1]))


def net_fault(net):
    """What is wrong with a net, or None; everything is worked out anew."""
    dues = {}
    fault = book_fault(net)
    if fault is None:
        fault = known_fault(net)
    if fault is None:
        fault = look_fault(net, dues)
    return way_fault(net, dues) if fault is None else fault


def book_fault(net):
    """The least listed book that has an alien deed or is not settled."""
    for number, book in enumerate(net.books):
        if any([net.lot.text_of(deed) is None for deed in book.deeds]) or start_of(book, net.lot).told != book:
            return ("book", number)
    return None


def known_fault(net):
    """The least book that is counted as borrowed and should not be, or the other way round."""
    borrowed = net.borrowed
    for number, book in enumerate(net.books):
        if (number in borrowed) != (len(book.rows) > 0 and book.key in net.known_keys):
            return ("known", number)
    return None


def due_outcomes(net, number, dues):
    """The due outcomes of a book, None for each that is no book; dues keeps what was worked out."""
    if number not in dues:
        book = net.books[number]
        outcomes = look_over(book, net.lot).outcomes if book.rows else ()
        dues[number] = [told if isinstance(told, Book) else None for _, told in outcomes]
    return dues[number]


def look_fault(net, dues):
    """The least looked book with a wrong outcome, and its least place."""
    for number in sorted(net.found):
        many, couples = net.found[number]
        place = wrong_place(net, due_outcomes(net, number, dues), many, couples)
        if place is not None:
            return ("look", number, place)
    return None


def wrong_place(net, due, many, couples):
    """The least place at which an outcome is wrong, missing or one too many; None if there is none."""
    kept = {place: net.books[number] for place, number in couples}
    for place, book in enumerate(due):
        if place >= many or kept.get(place) != book:
            return place
    return len(due) if many > len(due) else None


def way_fault(net, dues):
    """The least book that is no root book and is not the outcome at the last couple of its way."""
    for number, way in enumerate(net.ways):
        if way is None:
            continue
        due = due_outcomes(net, way[0], dues)
        if way[1] >= len(due) or due[way[1]] != net.books[number]:
            return ("way", number)
    return None
