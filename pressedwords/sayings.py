"""Sayings about texts and their plain meaning [2.1 to 2.5]."""

from pressedwords.books import is_sequence
from pressedwords.errors import BadSaying
from pressedwords.expressions import alphabet_of, check_expression, is_letter_of, matches

DEEPEST = 20
LONGEST_NAME = 8
SMALL_LETTERS = "abcdefghijklmnopqrstuvwxyz"


def check_letters(letters):
    """The number of outer letters, which is 1 to 3."""
    alphabet_of(letters)
    return letters


def is_item(thing, letters):
    """Whether this is a letter of the alphabet or a name."""
    return is_letter_of(thing, alphabet_of(letters)) or is_name(thing)


def is_name(thing):
    if not isinstance(thing, str) or thing[:1] != "?" or not 1 <= len(thing) - 1 <= LONGEST_NAME:
        return False
    return all([sign in SMALL_LETTERS for sign in thing[1:]])


def check_side(thing, letters):
    """The side as a tuple."""
    check_letters(letters)
    if not is_sequence(thing) or not all([is_item(item, letters) for item in thing]):
        raise BadSaying("side")
    return tuple(list(thing))


def check_saying(thing, letters):
    """The saying as plain tuples."""
    check_letters(letters)
    return checked_at(thing, letters, 1)


def checked_at(thing, letters, depth):
    """The saying that stands at this depth, as plain tuples."""
    if depth > DEEPEST:
        raise BadSaying("deep")
    if not has_parts(thing):
        raise BadSaying("saying")
    word = thing[0]
    if word == "alike":
        return (word, check_side(thing[1], letters), check_side(thing[2], letters))
    if word == "in":
        return (word, check_side(thing[1], letters), check_expression(thing[2], letters))
    return (word,) + tuple([checked_at(part, letters, depth + 1) for part in thing[1:]])


def has_parts(thing):
    """Whether this begins with one of the five words and has as many parts as the word asks for."""
    if not is_sequence(thing) or len(thing) == 0 or not isinstance(thing[0], str):
        return False
    if thing[0] == "not":
        return len(thing) == 2
    if thing[0] in ("alike", "in"):
        return len(thing) == 3
    return thing[0] in ("and", "or") and len(thing) > 1


def names_of(saying):
    """The names in a saying, ascending."""
    return tuple(sorted(set([item for item in items_in(saying) if item[0] == "?"])))


def items_in(saying):
    """All items in the sides of a saying, in the order of their places."""
    if saying[0] == "alike":
        return list(saying[1]) + list(saying[2])
    if saying[0] == "in":
        return list(saying[1])
    return [item for part in saying[1:] for item in items_in(part)]


def exchanged(saying, table):
    """The saying with the sides of the table put in for its names, all at once."""
    if saying[0] == "alike":
        return ("alike", exchanged_side(saying[1], table), exchanged_side(saying[2], table))
    if saying[0] == "in":
        return ("in", exchanged_side(saying[1], table), saying[2])
    return (saying[0],) + tuple([exchanged(part, table) for part in saying[1:]])


def exchanged_side(side, table):
    put = []
    for item in side:
        # A letter stands for itself, even if the table has such a key.
        put.extend(list(table[item]) if item[0] == "?" and item in table else [item])
    return tuple(put)


def side_text(side, texts):
    """The text of a side whose names have these texts."""
    return "".join([texts[item] if item[0] == "?" else item for item in side])


def saying_holds(saying, texts):
    """Whether a saying is true of these texts."""
    word = saying[0]
    if word == "alike":
        return side_text(saying[1], texts) == side_text(saying[2], texts)
    if word == "in":
        return matches(saying[2], side_text(saying[1], texts))
    if word == "not":
        return not saying_holds(saying[1], texts)
    truths = [saying_holds(part, texts) for part in saying[1:]]
    return all(truths) if word == "and" else any(truths)
