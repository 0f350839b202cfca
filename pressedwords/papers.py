"""Papers: closed lists of books, which show that none of their books can be filled [13.1 to 13.7]."""

from pressedwords.books import Book
from pressedwords.errors import NotShut, OtherDeeds
from pressedwords.stepping import guesses_of
from pressedwords.steps import told_step


class Entry:
    """A settled book, a step at it, and couples of a guess's place and Carries, which shut that guess."""

    def __init__(self, book, step, lots):
        self.book = book
        self.step = step
        self.lots = lots

    def __eq__(self, other):
        return (isinstance(other, Entry) and self.book == other.book and self.step == other.step
                and self.lots == other.lots)


class Shut:
    """The answer that there is no filling, with a paper as the reason."""

    def __init__(self, paper):
        self.paper = paper

    def __eq__(self, other):
        return isinstance(other, Shut) and self.paper == other.paper


class Paper:
    """Entries for one set of deeds."""

    def __init__(self, deeds, entries):
        self.deeds = tuple(list(deeds))
        self.entries = tuple(list(entries))

    def __eq__(self, other):
        return isinstance(other, Paper) and self.deeds == other.deeds and self.entries == other.entries

    def __len__(self):
        return len(self.entries)

    def __iter__(self):
        return iter(self.entries)

    def __contains__(self, book):
        return book in self.books

    @property
    def books(self):
        return tuple([entry.book for entry in self.entries])


def deeds_in(lot):
    """All deeds of a lot, as they stand in its table."""
    return tuple([deed for deed, _ in lot.table])


def join_papers(one, other):
    """The entries of both papers, without those whose book stands in an earlier entry."""
    if one.deeds != other.deeds:
        raise OtherDeeds()
    entries = {}
    for entry in one.entries + other.entries:
        if entry.book.key not in entries:
            entries[entry.book.key] = entry
    return Paper(one.deeds, list(entries.values()))


def trim_paper(books, paper, lot):
    """The entries that are reached from these books."""
    listed = {}
    for entry in paper.entries:
        listed.setdefault(entry.book.key, []).append(entry)
    waiting = [book.key for book in books if isinstance(book, Book)]
    reached = {}
    while waiting:
        key = waiting.pop()
        if key in listed and key not in reached:
            reached[key] = True
            for entry in listed[key]:
                waiting.extend(told_keys(entry, lot))
    return Paper(paper.deeds, [entry for entry in paper.entries if entry.book.key in reached])


def told_keys(entry, lot):
    """The keys of the books that the guesses of an entry's step tell."""
    book = entry.book
    step = entry.step
    return [guess.told.key for guess in guesses_of(book, step, lot) if isinstance(guess.told, Book)]


def closed_list(net, known=None):
    """The paper of a shut net, with what it needs of a known paper."""
    if net.verdict != "shut":
        raise NotShut()
    paper = Paper(deeds_in(net.lot), [entry_of(net, number) for number in sorted(net.looked)])
    if known is None or known.deeds != paper.deeds or not net.borrowed:
        return paper
    return join_papers(paper, trim_paper([net.books[number] for number in net.borrowed], known, net.lot))


def entry_of(net, number):
    """The entry of a looked book."""
    book = net.books[number]
    return Entry(book, told_step(book), net.carries_at(number))
