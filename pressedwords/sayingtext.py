"""The printed form of sayings [2.6 to 2.9]."""

from pressedwords.errors import BadExpression, BadText
from pressedwords.expressions import expression_text, read_expression
from pressedwords.sayings import DEEPEST, check_letters, is_item

PRINTED_WORDS = {"not": "not", "and": "all", "or": "some"}
READ_WORDS = {"not": "not", "all": "and", "some": "or"}


def saying_text(saying):
    """The saying as one line of words."""
    if saying[0] == "alike":
        return printed_side(saying[1]) + " = " + printed_side(saying[2])
    if saying[0] == "in":
        return printed_side(saying[1]) + " in " + expression_text(saying[2])
    parts = " ; ".join([saying_text(part) for part in saying[1:]])
    return PRINTED_WORDS[saying[0]] + " [ " + parts + " ]"


def printed_side(side):
    return " ".join(list(side)) if side else "empty"


def sayings_text(sayings):
    """The sayings one a line."""
    return "\n".join([saying_text(saying) for saying in sayings])


def read_saying(text, letters):
    """The saying that is printed in this way."""
    check_letters(letters)
    words = text.split(" ")
    saying, at = read_saying_at(words, 0, 1, letters)
    if at < len(words):
        raise BadText(0, at)
    return saying


def read_sayings(text, letters):
    """The sayings that are printed in this way, as a tuple."""
    check_letters(letters)
    if text == "":
        return ()
    sayings = []
    for number, line in enumerate(text.split("\n")):
        try:
            sayings.append(read_saying(line, letters))
        except BadText as misfit:
            raise BadText(number, misfit.place) from None
    return tuple(sayings)


# The functions below read from the word at a place on. They return what they read and the place behind it.


def read_saying_at(words, at, depth, letters):
    """The saying that begins here at this depth."""
    if depth < DEEPEST and at < len(words) and words[at] in READ_WORDS:
        return read_joined(words, at, depth, letters)
    side, at = read_side(words, at, letters)
    if word_stands(words, at, "="):
        other, at = read_side(words, at + 1, letters)
        return ("alike", side, other), at
    at = behind_word(words, at, "in")
    return ("in", side, expression_at(words, at, letters)), at + 1


def read_joined(words, at, depth, letters):
    """The saying of one of the words not, all and some, with its parts in brackets."""
    word = READ_WORDS[words[at]]
    at = behind_word(words, at + 1, "[")
    part, at = read_saying_at(words, at, depth + 1, letters)
    parts = [part]
    while word != "not" and word_stands(words, at, ";"):
        part, at = read_saying_at(words, at + 1, depth + 1, letters)
        parts.append(part)
    return (word,) + tuple(parts), behind_word(words, at, "]")


def read_side(words, at, letters):
    """The side that goes on as long as items come."""
    if word_stands(words, at, "empty"):
        return (), at + 1
    begin = at
    while at < len(words) and is_item(words[at], letters):
        at += 1
    if at == begin:
        raise BadText(0, at)
    return tuple(words[begin:at]), at


def expression_at(words, at, letters):
    """The expression that is the word here."""
    if at == len(words):
        raise BadText(0, at)
    try:
        return read_expression(words[at], letters)
    except (BadText, BadExpression):
        raise BadText(0, at) from None


def word_stands(words, at, word):
    return at < len(words) and words[at] == word


def behind_word(words, at, word):
    """The place behind this word, which has to stand here."""
    if not word_stands(words, at, word):
        raise BadText(0, at)
    return at + 1
