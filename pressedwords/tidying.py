"""Tidy books and their canonical form [1.7, 1.8]."""

from pressedwords.books import Book, Clash


class Canon:
    """A canonical book, and the old numbers of its letters and unknowns."""

    def __init__(self, book, letters, unknowns):
        self.book = book
        self.letters = letters
        self.unknowns = unknowns

    def __eq__(self, other):
        return (isinstance(other, Canon) and self.book == other.book
                and self.letters == other.letters and self.unknowns == other.unknowns)


def tidy(book):
    """The book without equal signs at the ends of its rows, or the first Clash that comes to light."""
    rows = tidy_rows(book.rows)
    return rows if isinstance(rows, Clash) else Book(rows, book.deeds, book.ends, book.states)


def tidy_rows(rows):
    """The rows, couples of tuples, without equal signs at their ends, or the first Clash that comes to light."""
    kept = []
    for at, row in enumerate(rows):
        left, right = stripped(row)
        why = clash_word(left, right)
        if why is not None:
            return Clash(why, at)
        if left:
            kept.append((left, right))
    return kept


def stripped(row):
    """Both sides without the equal signs in front, then without those behind."""
    left, right = row
    least = min(len(left), len(right))
    front = 0
    while front < least and left[front] == right[front]:
        front += 1
    behind = 0
    while behind < least - front and left[-1 - behind] == right[-1 - behind]:
        behind += 1
    return left[front:len(left) - behind], right[front:len(right) - behind]


def clash_word(left, right):
    """Why the sides of a stripped row never become one text, or None."""
    if not left and not right:
        return None
    if not left or not right:
        return "empty"
    if left[0] >= 0 and right[0] >= 0:
        return "front"
    if left[-1] >= 0 and right[-1] >= 0:
        return "back"
    return None


def canon(book):
    """The canonical form of a tidy book."""
    return canon_of(book.rows, book.deeds, book.ends, book.states)


def canon_of(tidied, old_deeds, old_ends, states):
    """The canonical form of tidy rows, whose signs have these deeds and ends."""
    rows = unlike_rows(tidied)
    letters = first_places([sign for row in rows for side in row for sign in side if sign >= 0])
    unknowns = first_places([-1 - sign for row in rows for side in row for sign in side if sign < 0])
    signs = {}
    for new, old in enumerate(letters):
        signs[old] = new
    for new, old in enumerate(unknowns):
        signs[-1 - old] = -1 - new
    renamed = [[[signs[sign] for sign in side] for side in row] for row in rows]
    deeds = [old_deeds[old] for old in letters]
    ends = [plain_ends(old_ends[old], states) for old in unknowns]
    return Canon(Book(renamed, deeds, ends, states), letters, unknowns)


def unlike_rows(rows):
    """The rows without those that an earlier row tells already, perhaps with its sides exchanged."""
    met = {}
    kept = []
    for left, right in rows:
        if (left, right) not in met and (right, left) not in met:
            met[(left, right)] = True
            kept.append((left, right))
    return kept


def first_places(numbers):
    """The unlike numbers in the order of their first places."""
    met = {}
    for number in numbers:
        met[number] = True
    return tuple(list(met))


def plain_ends(ends, states):
    """The same ends, with start 0 if the goals are all states, since then the start does not matter."""
    start, goals = ends
    return (0, goals) if len(goals) == states else (start, goals)
