"""Settled books: tidy, canonical, and with a text for every unknown's ends [5.1, 5.2]."""

from pressedwords.books import Clash
from pressedwords.tidying import canon_of, tidy_rows


class Settled:
    """What settle tells of a book: told is the canonical book or a Clash."""

    def __init__(self, told, letters, unknowns, spares):
        self.told = told
        self.letters = letters
        self.unknowns = unknowns
        self.spares = spares

    def __eq__(self, other):
        return (isinstance(other, Settled) and self.told == other.told and self.letters == other.letters
                and self.unknowns == other.unknowns and self.spares == other.spares)


def settle(book, gone, lot):
    """The settled book, of whose unknowns those in gone are no longer looked for."""
    return settled_rows(book.rows, book.deeds, book.ends, book.states, gone, lot)


def settled_rows(rows, deeds, ends, states, gone, lot):
    """What settle tells of the book with these rows; a guess has it without making the book first."""
    tidied = tidy_rows(rows)
    if isinstance(tidied, Clash):
        return Settled(tidied, (), (), ())
    wanted = [number for number in range(len(ends)) if number not in gone]
    for number in wanted:
        start, goals = ends[number]
        if lot.path_text(start, goals) is None:
            return Settled(Clash("state", number), (), (), ())
    told = canon_of(tidied, deeds, ends, states)
    spares = tuple([(number, ends[number]) for number in wanted if number not in told.unknowns])
    return Settled(told.book, told.letters, told.unknowns, spares)


def start_of(book, lot):
    """The settled book in which all unknowns are looked for."""
    return settle(book, (), lot)
