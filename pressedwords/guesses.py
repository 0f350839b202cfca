"""Guesses: what each unknown of a book gives up [5.3, 5.4, 5.7]."""

from pressedwords.settling import settled_rows

ONCE = (1, ())


class Guess:
    """What each unknown gives up, the new letters, and what becomes of the book."""

    def __init__(self, parts, news, told, letters, unknowns, spares, equations):
        self.parts = parts
        self.news = news
        self.told = told
        self.letters = letters
        self.unknowns = unknowns
        self.spares = spares
        self.equations = equations

    def __eq__(self, other):
        return (isinstance(other, Guess) and self.parts == other.parts and self.news == other.news
                and self.told == other.told and self.letters == other.letters
                and self.unknowns == other.unknowns and self.spares == other.spares
                and self.equations == other.equations)


def opened_side(side, parts):
    """The side with each unknown's parts put in for it, each sign beside its form."""
    opened = []
    for sign in side:
        if sign >= 0:
            opened.append((sign, ONCE))
        else:
            front, stays, back = parts[-1 - sign]
            opened.extend(list(front))
            if stays:
                opened.append((sign, ONCE))
            opened.extend(list(back))
    return tuple(opened)


def told_guess(parts, news, rows, deeds, ends, equations, lot):
    """The guess whose new book has these rows, deeds and ends [5.5]."""
    gone = [number for number, part in enumerate(parts) if not part[1]]
    settled = settled_rows(rows, deeds, ends, lot.states, gone, lot)
    return Guess(parts, news, settled.told, settled.letters, settled.unknowns, settled.spares, equations)


def combined(rows):
    """All tuples of one thing of each row, the things of the last row changing fastest."""
    if not all([len(row) > 0 for row in rows]):
        return
    places = [0 for _ in rows]
    while True:
        yield tuple([row[place] for row, place in zip(rows, places)])
        at = len(rows) - 1
        while at >= 0 and places[at] == len(rows[at]) - 1:
            places[at] = 0
            at -= 1
        if at < 0:
            return
        places[at] += 1
