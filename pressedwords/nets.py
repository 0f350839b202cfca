"""Nets of books: everything that told steps reach from some root books [9.1 to 9.10]."""

from pressedwords.books import Book, is_sequence, is_whole, letter_places, size_bound, unknown_places
from pressedwords.carries import Carries
from pressedwords.errors import BadOrder, BadRoom, Ended, NoBook, NotLooked, NotOpen, TooFull
from pressedwords.stepping import guesses_of, outcome_of
from pressedwords.steps import told_step

ORDERS = ("first", "last", "least")
LONGEST_ORDER = 60
GREATEST = 10 ** 6


class Look:
    """What is seen of a book with rows: its told step, and each guess of the step with its outcome."""

    def __init__(self, step, outcomes):
        self.step = step
        self.outcomes = outcomes

    def __eq__(self, other):
        return isinstance(other, Look) and self.step == other.step and self.outcomes == other.outcomes


def check_order(order):
    """The order in which a net looks at its open books, a text or a tuple."""
    if isinstance(order, str) and order in ORDERS:
        return order
    if not is_sequence(order) or not 1 <= len(order) <= LONGEST_ORDER:
        raise BadOrder()
    if not all([is_whole(number) and 0 <= number <= GREATEST for number in order]):
        raise BadOrder()
    return tuple(list(order))


def check_room(room):
    """How many books a net may list at most."""
    if not is_whole(room) or not 1 <= room <= GREATEST:
        raise BadRoom()
    return room


def look_over(book, lot):
    """The Look of a book with rows."""
    step = told_step(book)
    return Look(step, tuple([(guess, outcome_of(guess)) for guess in guesses_of(book, step, lot)]))


class Net:
    """Listed books, numbered as they come.

    numbers has the number of each listed book by its key, ways the couple (number, place) that led to a book, or
    None for a root book; empty is the empty book's number, lent has the borrowed numbers. found has for each looked
    number how many outcomes its look has, and the couples (place, number) of those that are books. A look may have
    very many outcomes, so they are not kept; but carried has the couples (place, Carries), of which a paper is made,
    for each look that was taken in and not read.
    """

    def __init__(self, roots, lot, order="first", *, room=300, backward=False, known=()):
        self.order = check_order(order)
        self.room = check_room(room)
        self.lot = lot
        self.backward = backward
        self.known = tuple(list(known))
        self.known_keys = {book.key: True for book in self.known}
        self.looks = 0
        self.listed = ()
        self.numbers = {}
        self.ways = ()
        self.empty = None
        self.lent = {}
        self.found = {}
        self.carried = {}
        fresh = {root.key: root for root in roots if isinstance(root, Book)}
        if len(fresh) > self.room:
            raise TooFull(())
        self.put_books([(book, None) for book in fresh.values()])
        self.rooted = tuple([self.numbers[root.key] if isinstance(root, Book) else None for root in roots])

    def put_books(self, fresh):
        """Lists further books, couples of a book and its way."""
        for number, (book, _) in enumerate(fresh, start=len(self.listed)):
            self.numbers[book.key] = number
            if not book.rows:
                self.empty = number
            elif book.key in self.known_keys:
                self.lent[number] = True
        self.listed = self.listed + tuple([book for book, _ in fresh])
        self.ways = self.ways + tuple([way for _, way in fresh])

    def put_back(self, fresh, rooted, lent, found, looks):
        """Puts into a net without books those of a printed one, with all that was printed of them."""
        self.put_books(fresh)
        self.rooted = rooted
        self.lent = {number: True for number in lent}
        self.found = dict(found)
        self.looks = looks

    def __len__(self):
        return len(self.listed)

    def __iter__(self):
        return iter(self.listed)

    def __contains__(self, book):
        return isinstance(book, Book) and book.key in self.numbers

    @property
    def books(self):
        return self.listed

    @property
    def open_books(self):
        return tuple([number for number, book in enumerate(self.listed)
                      if book.rows and number not in self.lent and number not in self.found])

    @property
    def borrowed(self):
        return tuple(sorted(self.lent))

    @property
    def looked(self):
        return tuple(list(self.found))

    @property
    def filled(self):
        return self.empty

    @property
    def verdict(self):
        if self.filled is not None:
            return "filled"
        return "going" if self.open_books else "shut"

    @property
    def ended(self):
        return self.verdict != "going"

    @property
    def bound(self):
        return max([size_bound(book) for book, way in zip(self.listed, self.ways) if way is None], default=0)

    @property
    def largest(self):
        return max([letter_places(book) for book in self.listed], default=0)

    def advance(self):
        """Looks at the book that the order tells and returns its number."""
        self.ask_going()
        number = self.next_number()
        self.take_look(number)
        return number

    def next_number(self):
        """The open number that the order tells."""
        waiting = self.open_books
        if self.order == "first":
            return waiting[0]
        if self.order == "last":
            return waiting[-1]
        if self.order == "least":
            return min([book_size(self.listed[number]) + (number,) for number in waiting])[2]
        return waiting[self.order[self.looks % len(self.order)] % len(waiting)]

    def look_at(self, number):
        """Looks at the open book with this number."""
        self.ask_going()
        self.ask_listed(number)
        if number not in self.open_books:
            raise NotOpen(number)
        self.take_look(number)

    def ask_going(self):
        if self.ended:
            raise Ended(self.verdict)

    def ask_listed(self, number):
        if not is_whole(number) or not 0 <= number < len(self.listed):
            raise NoBook(number)

    def take_look(self, number):
        """Takes in the look at an open book, whole or not at all."""
        many, books, carried = self.outcome_books(self.listed[number])
        fresh = {}
        for place, book in books[::-1] if self.backward else books:
            if book not in self and book.key not in fresh:
                fresh[book.key] = (book, place)
        if len(self.listed) + len(fresh) > self.room:
            raise TooFull(self.open_books)
        self.put_books([(book, (number, place)) for book, place in fresh.values()])
        self.found[number] = (many, tuple([(place, self.numbers[book.key]) for place, book in books]))
        self.carried[number] = tuple(carried)
        self.looks += 1

    def outcome_books(self, book):
        """How many outcomes the look at a book has, and couples (place, outcome) of its books and of its Carries."""
        step = told_step(book)
        lot = self.lot
        books = []
        carried = []
        many = 0
        for guess in guesses_of(book, step, lot):
            told = outcome_of(guess)
            if isinstance(told, Book):
                books.append((many, told))
            elif isinstance(told, Carries):
                carried.append((many, told))
            many += 1
        return many, books, carried

    def carries_at(self, number):
        """The couples (place, Carries) of a looked book's look."""
        if number in self.carried:
            return self.carried[number]
        _, _, carried = self.outcome_books(self.listed[number])
        return tuple(carried)

    def run(self, steps):
        """Advances until the net has ended, at most so many times, and returns how often."""
        many = 0
        while many < steps and not self.ended:
            self.advance()
            many += 1
        return many

    def forget(self, number):
        """Makes a looked book open again."""
        if self.filled is not None:
            raise Ended("filled")
        self.ask_looked(number)
        del self.found[number]

    def ask_looked(self, number):
        self.ask_listed(number)
        if number not in self.found:
            raise NotLooked(number)

    def outcomes_at(self, number):
        """The outcomes of a looked book's look, with numbers in the place of books."""
        self.ask_looked(number)
        return tuple([(guess, self.numbers.get(told.key) if isinstance(told, Book) else told)
                      for guess, told in look_over(self.listed[number], self.lot).outcomes])

    def way_to(self, number):
        """The way by which a book was listed: couples of a number and a place, from a root book on."""
        self.ask_listed(number)
        way = []
        while self.ways[number] is not None:
            way.append(self.ways[number])
            number = self.ways[number][0]
        return tuple(way[::-1])


def book_size(book):
    return (letter_places(book), unknown_places(book))
