"""The judge of closed lists [13.4]."""

from pressedwords.books import Book, Clash
from pressedwords.carries import judge_carries
from pressedwords.errors import BadStep
from pressedwords.papers import deeds_in
from pressedwords.settling import start_of
from pressedwords.stepping import guesses_of
from pressedwords.steps import let_step


def judge_list(books, paper, lot):
    """Why a paper is not closed for these books, or None."""
    if paper.deeds != deeds_in(lot):
        return ("deeds",)
    listed = {}
    for place, book in enumerate(paper.books):
        listed.setdefault(book.key, place)
    for place, entry in enumerate(paper.entries):
        fault = entry_fault(entry, place, listed, lot)
        if fault is not None:
            return fault
    for place, book in enumerate(books):
        if isinstance(book, Book) and book.key not in listed:
            return ("root", place)
    return None


def entry_fault(entry, place, listed, lot):
    """What is wrong with the entry at a place, or None; listed has the first place of each book."""
    book = entry.book
    if listed[book.key] < place:
        return ("double", place)
    if book.states != lot.states or any([lot.text_of(deed) is None for deed in book.deeds]):
        return ("alien", place)
    if start_of(book, lot).told != book:
        return ("unsettled", place)
    if not book.rows:
        return ("filled", place)
    try:
        step = let_step(book, entry.step)
    except BadStep:
        return ("step", place)
    for at, guess in enumerate(guesses_of(book, step, lot)):
        if not isinstance(guess.told, Clash) and guess.told.key not in listed:
            why = shut_fault(entry.lots, at, guess)
            if why is not None:
                return (why, place, at)
    return None


def shut_fault(lots, at, guess):
    """Why a guess is not shut by the Carries for its place, or None."""
    for place, carries in lots:
        if place == at:
            return None if judge_carries(guess.equations, carries) is None else "carries"
    return "open"
