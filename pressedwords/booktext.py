"""The printed form of books [2.9 to 2.11]."""

from pressedwords.books import Book, sign_stands
from pressedwords.errors import BadText

FIGURES = "0123456789"
MOST_FIGURES = 9
KINDS = ("states", "letter", "unknown", "row")


def read_whole(word):
    """The whole number of a number word, or None if the string is none."""
    if not 1 <= len(word) <= MOST_FIGURES or not all([sign in FIGURES for sign in word]):
        return None
    if word[0] == "0" and word != "0":
        return None
    return int(word)


def book_text(book):
    """The book as lines."""
    lines = [["states", str(book.states)]]
    for deed in book.deeds:
        lines.append(["letter"] + [str(state) for state in deed])
    for start, goals in book.ends:
        lines.append(["unknown", str(start), ":"] + [str(state) for state in goals])
    for left, right in book.rows:
        lines.append(["row"] + sign_words(left) + ["="] + sign_words(right))
    return "\n".join([" ".join(words) for words in lines])


def sign_words(side):
    return [str(sign) if sign >= 0 else "?" + str(-1 - sign) for sign in side]


def read_book(text):
    """The book that is printed in this way."""
    lines = [line.split(" ") for line in text.split("\n")]
    states = read_states(lines[0])
    deeds = []
    ends = []
    rows = []
    kind = 1
    for number, words in enumerate(lines[1:], start=1):
        kind = line_kind(words, number, kind)
        if KINDS[kind] == "letter":
            deeds.append(read_deed(words, number, states))
        elif KINDS[kind] == "unknown":
            ends.append(read_ends(words, number, states))
        else:
            rows.append(read_row(words, number, len(deeds), len(ends)))
    return Book(rows, deeds, ends, states)


def line_kind(words, number, least):
    """The kind of a line, of which those ahead of the least one may no longer stand."""
    for kind in range(least, len(KINDS)):
        if words[0] == KINDS[kind]:
            return kind
    raise BadText(number, 0)


def read_states(words):
    """The number of states that the first line tells."""
    if words[0] != "states":
        raise BadText(0, 0)
    states = read_whole(words[1]) if len(words) > 1 else None
    if states is None or states == 0:
        raise BadText(0, 1)
    if len(words) > 2:
        raise BadText(0, 2)
    return states


def read_below(word, bound):
    """The number of a number word if it is below the bound, or None."""
    number = read_whole(word)
    return number if number is not None and number < bound else None


def read_deed(words, number, states):
    """The deed that a letter's line tells."""
    deed = []
    for place in range(1, len(words)):
        state = read_below(words[place], states)
        if state is None or len(deed) == states:
            raise BadText(number, place)
        deed.append(state)
    if len(deed) < states:
        raise BadText(number, len(words))
    return deed


def read_ends(words, number, states):
    """The ends that an unknown's line tells."""
    start = read_below(words[1], states) if len(words) > 1 else None
    if start is None:
        raise BadText(number, 1)
    if len(words) == 2 or words[2] != ":":
        raise BadText(number, 2)
    goals = []
    for place in range(3, len(words)):
        state = read_below(words[place], states)
        if state is None or (goals and state <= goals[-1]):
            raise BadText(number, place)
        goals.append(state)
    return (start, goals)


def read_row(words, number, letters, unknowns):
    """The sides that a row's line tells, over so many letters and unknowns."""
    sides = [[]]
    for place in range(1, len(words)):
        word = words[place]
        if word == "=" and len(sides) == 1:
            sides.append([])
            continue
        sign = read_sign(word)
        if sign is None or not sign_stands(sign, letters, unknowns):
            raise BadText(number, place)
        sides[-1].append(sign)
    if len(sides) == 1:
        raise BadText(number, len(words))
    return sides


def read_sign(word):
    """The sign that a word tells, or None."""
    if word[:1] != "?":
        return read_whole(word)
    unknown = read_whole(word[1:])
    return None if unknown is None else -1 - unknown
