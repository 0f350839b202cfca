"""Expressions, which stand for sets of texts, and their printed form [3.1 to 3.6]."""

from pressedwords.books import is_sequence, is_whole
from pressedwords.errors import BadExpression, BadLetters, BadText
from pressedwords.machines import BEGINNING, Machine

OUTER_LETTERS = "abc"
MOST_MARKS = 40
MOST_SIGNS = 400
MOST_BRACKETS = 40
ENTRIES = {"letter": 2, "any": 1, "empty": 1, "behind": 3, "either": 3, "again": 2}
SIGNS = {"any": ".", "empty": "_"}


def alphabet_of(letters):
    """The string of the outer letters in use."""
    if not is_whole(letters) or letters < 1 or letters > len(OUTER_LETTERS):
        raise BadLetters()
    return OUTER_LETTERS[:letters]


def is_letter_of(thing, alphabet):
    return isinstance(thing, str) and len(thing) == 1 and thing in alphabet


def check_expression(thing, letters):
    """The expression as plain tuples."""
    alphabet = alphabet_of(letters)
    expression, _ = checked_mark(thing, alphabet, 0)
    return expression


def checked_mark(thing, alphabet, visited):
    """One mark with its parts as tuples, and how many marks are visited behind it."""
    if visited == MOST_MARKS:
        raise BadExpression("marks")
    if not has_form(thing):
        raise BadExpression("form")
    visited += 1
    word = thing[0]
    if word == "letter":
        if not is_letter_of(thing[1], alphabet):
            raise BadExpression("letter")
        return ("letter", thing[1]), visited
    entries = [word]
    for part in thing[1:]:
        entry, visited = checked_mark(part, alphabet, visited)
        entries.append(entry)
    return tuple(entries), visited


def has_form(thing):
    """Whether this begins with one of the six words and has as many entries as the word asks for."""
    if not is_sequence(thing) or len(thing) == 0:
        return False
    word = thing[0]
    return isinstance(word, str) and word in ENTRIES and len(thing) == ENTRIES[word]


def matches(expression, text):
    """Whether the text is one of the expression's."""
    machine = Machine(expression)
    places = BEGINNING
    for letter in text:
        places = machine.after(places, letter)
    return machine.takes(places)


def expression_text(expression):
    """The printed form, with brackets only where they are needed."""
    word = expression[0]
    if word == "letter":
        return expression[1]
    if word in SIGNS:
        return SIGNS[word]
    if word == "again":
        return part_text(expression[1], ("behind", "either")) + "*"
    if word == "behind":
        return part_text(expression[1], ("either",)) + part_text(expression[2], ("behind", "either"))
    return expression_text(expression[1]) + "|" + part_text(expression[2], ("either",))


def part_text(part, bracketed):
    """The printed form of a part, in brackets if it begins with one of these words."""
    text = expression_text(part)
    return "(" + text + ")" if part[0] in bracketed else text


def read_expression(text, letters):
    """The expression that has this printed form, perhaps with needless brackets."""
    alphabet = alphabet_of(letters)
    if len(text) > MOST_SIGNS:
        raise BadText(0, MOST_SIGNS)
    place = misfit_place(text, alphabet)
    if place is not None:
        raise BadText(0, place)
    if marks_of(text) > MOST_MARKS:
        raise BadExpression("marks")
    return built(text)


def misfit_place(text, alphabet):
    """The place of the first sign that cannot stand there, or the length of a text that ends too early."""
    depth = 0
    # Whether a part ends here, so that a star, a bar or a closing bracket may come.
    ended = False
    for place, sign in enumerate(text):
        if not sign_fits(sign, alphabet, depth, ended):
            return place
        if sign == "(":
            depth += 1
        if sign == ")":
            depth -= 1
        ended = sign not in "(|"
    return None if ended and depth == 0 else len(text)


def sign_fits(sign, alphabet, depth, ended):
    """Whether a sign may come with so many brackets waiting to be closed."""
    if sign == "(":
        return depth < MOST_BRACKETS
    if sign == ")":
        return ended and depth > 0
    if sign in "*|":
        return ended
    return sign in "_." or sign in alphabet


def marks_of(text):
    """How many marks the expression of a text has whose signs all fit."""
    single = len([sign for sign in text if sign not in "()*|"])
    # Every behind and every either joins two parts into one, so there is one less of them.
    return single + single - 1 + text.count("*")


def built(text):
    """The expression of a text whose signs all fit.

    What was read behind the last bracket waiting is a triple: what stands ahead of the last bar, what stands
    behind that bar ahead of the last part, and the last part, which a star may still take.
    """
    outside = []
    now = (None, None, None)
    for sign in text:
        if sign == "(":
            outside.append(now)
            now = (None, None, None)
        elif sign == ")":
            now = with_part(outside.pop(), all_of(now))
        elif sign == "|":
            now = (all_of(now), None, None)
        elif sign == "*":
            now = (now[0], now[1], ("again", now[2]))
        else:
            now = with_part(now, single_mark(sign))
    return all_of(now)


def with_part(now, part):
    choices, row, last = now
    return (choices, joined("behind", row, last), part)


def all_of(now):
    choices, row, last = now
    return joined("either", choices, joined("behind", row, last))


def joined(word, one, other):
    """Both parts under this word, or the second alone if there is no first one."""
    return other if one is None else (word, one, other)


def single_mark(sign):
    if sign == ".":
        return ("any",)
    if sign == "_":
        return ("empty",)
    return ("letter", sign)
