"""Plain fillings of books, for tests that try all short ones.

A letter of a filling is a token: ("old", i) for letter i of a parent, ("pair", l, r) and ("row", a, many) for what a
step presses, and ("further", deed) for any further letter.
"""

from itertools import product

from pressedwords.deeds import deed_after


class Meaning:
    """The fillings of a parent and of the books of its guesses."""

    def __init__(self, parent, lot):
        self.parent = parent
        self.further = [("further", deed) for deed, _ in lot.table]
        self.names = [("old", letter) for letter in range(len(parent.deeds))]

    def deed(self, token):
        if token[0] == "old":
            return self.parent.deeds[token[1]]
        if token[0] == "further":
            return token[1]
        return self.text_deed(written(token))

    def text_deed(self, text):
        deed = tuple(range(self.parent.states))
        for token in text:
            deed = deed_after(deed, self.deed(token))
        return deed

    def fits(self, ends, text):
        start, goals = ends
        return len(text) > 0 and self.text_deed(text)[start] in goals

    def fills(self, book, names, texts):
        """Whether texts by unknown numbers fill a book whose letters are the tokens in names."""
        return (all(self.fits(ends, text) for ends, text in zip(book.ends, texts))
                and all(filled(left, names, texts) == filled(right, names, texts) for left, right in book.rows))

    def all_texts(self, ends, tokens, length):
        return [text for many in range(1, length + 1) for text in product(tokens, repeat=many)
                if self.fits(ends, text)]

    def fillings(self, book, names, length, further=True):
        """All fillings of a book by texts up to a length, of its letters and of a further letter of each deed."""
        tokens = list(dict.fromkeys(list(names) + (self.further if further else [])))
        choices = [self.all_texts(ends, tokens, length) for ends in book.ends]
        return [texts for texts in product(*choices) if self.fills(book, names, texts)]


def filled(side, names, texts):
    return tuple(token for sign in side for token in ((names[sign],) if sign >= 0 else texts[-1 - sign]))


def filled_length(book, names, texts):
    return sum(len(filled(left, names, texts)) for left, _ in book.rows)


def written(token):
    """The tokens of the parent that a token stands for."""
    if token[0] == "pair":
        return (("old", token[1]), ("old", token[2]))
    if token[0] == "row":
        return (("old", token[1]),) * token[2]
    return (token,)


def written_out(text):
    return tuple(part for token in text for part in written(token))


def crossed(book, firsts, seconds):
    """For each unknown whether it is crossed in front and whether it is crossed behind, straight from [6.2]."""
    places = [(side[at], side[at + 1]) for row in book.rows for side in row for at in range(len(side) - 1)]
    return [(any(then == -1 - unknown and (sign < 0 or sign in firsts) for sign, then in places),
             any(sign == -1 - unknown and (then < 0 or then in seconds) for sign, then in places))
            for unknown in range(len(book.ends))]
