"""What several tests share: short texts, plain oracles, and checks of kinds."""

from itertools import product

from pressedwords.books import Book
from pressedwords.deeds import deeds_of
from pressedwords.expressions import read_expression
from pressedwords.settling import start_of
from pressedwords.watchers import watcher_of


def texts_up_to(alphabet, length):
    """All texts over an alphabet, the first one first."""
    return ["".join(signs) for many in range(length + 1) for signs in product(alphabet, repeat=many)]


def rows_up_to(signs, length, least=1):
    """All tuples over some signs with from least to length entries."""
    return [row for many in range(least, length + 1) for row in product(signs, repeat=many)]


def plainly_matches(expression, text):
    """Whether an expression has a text, straight from the meaning of the six words."""
    word = expression[0]
    if word == "letter":
        return text == expression[1]
    if word == "any":
        return len(text) == 1
    if word == "empty":
        return text == ""
    if word == "either":
        return plainly_matches(expression[1], text) or plainly_matches(expression[2], text)
    if word == "behind":
        return any(plainly_matches(expression[1], text[:cut]) and plainly_matches(expression[2], text[cut:])
                   for cut in range(len(text) + 1))
    return text == "" or any(plainly_matches(expression[1], text[:cut]) and plainly_matches(expression, text[cut:])
                             for cut in range(1, len(text) + 1))


def watcher_for(texts, letters):
    """The watcher of some printed expressions."""
    return watcher_of([read_expression(text, letters) for text in texts], letters)


def lot_for(texts, letters):
    """The deeds of the watcher of some printed expressions."""
    return deeds_of(watcher_for(texts, letters))


def holds_list(thing):
    """Whether a list stands anywhere in a thing made of sequences."""
    if isinstance(thing, list):
        return True
    return isinstance(thing, tuple) and any(holds_list(part) for part in thing)


def as_lists(thing):
    """The same thing with a list for each tuple."""
    if isinstance(thing, (list, tuple)):
        return [as_lists(part) for part in thing]
    return thing


def caught(kind, call, *given):
    """The attributes of the error of just this class that a call raises."""
    try:
        told = call(*given)
    except kind as error:
        assert error.__class__ is kind, error
        return tuple(vars(error).values())
    raise AssertionError(f"{kind.__name__} was not raised, but told: {told!r}")


class Alien:
    """An object of another class with any attributes."""

    def __init__(self, **attributes):
        vars(self).update(attributes)


def check_result(test, kind, names):
    """Holds a class of results against [0.3], with attributes of these names."""
    given = [("thing", number) for number in range(len(names))]
    made = kind(*given)
    for name, thing in zip(names, given):
        test.assertIs(getattr(made, name), thing)
    test.assertEqual(vars(kind(**dict(zip(names, given)))), vars(made))
    test.assertTrue(made == kind(*given))
    test.assertFalse(made != kind(*given))
    for place in range(len(names)):
        other = list(given)
        other[place] = "unlike"
        test.assertFalse(made == kind(*other))
        test.assertTrue(made != kind(*other))
    for alien in (Alien(**vars(made)), tuple(given), None, 0, "thing"):
        test.assertFalse(made == alien)
        test.assertTrue(made != alien)


def root_of(lot, *rows, ends=None):
    """What start_of tells of rows like "Xab=aYX": small letters are outer ones, X, Y and Z unknowns of any text."""
    whole = (0, tuple(range(lot.states)))
    signs = {letter: number for number, letter in enumerate(lot.letters)}
    signs.update({"X": -1, "Y": -2, "Z": -3})
    sides = [tuple(tuple(signs[sign] for sign in side) for side in row.split("=")) for row in rows]
    deeds = [lot.letter_deed(letter) for letter in lot.letters]
    return start_of(Book(sides, deeds, ends or (whole,) * 3, lot.states), lot).told
