"""The first step: what both sides of a row begin with [5.5, 5.6, 5.8]."""

from pressedwords.guesses import ONCE, opened_side, told_guess

WHOLE = ((), True, ())


def left_ends(ends, front, back, deeds):
    """The ends of what is left of an unknown that gives up the letters of front and of back."""
    start, goals = ends
    for letter, _ in front:
        start = deeds[letter][start]
    for letter, _ in back[::-1]:
        deed = deeds[letter]
        goals = [state for state in range(len(deed)) if deed[state] in goals]
    return (start, tuple(goals))


def part_fits(ends, part, deeds, lot):
    """Whether some text with these ends is made up as the part says."""
    front, stays, back = part
    if stays:
        start, goals = left_ends(ends, front, back, deeds)
        return lot.path_text(start, goals) is not None
    end, goals = left_ends(ends, front + back, (), deeds)
    return end in goals


def first_guesses(book, at, lot):
    """The guesses of the first step on the row with this number."""
    left, right = book.rows[at]
    signs = (left[0], right[0])
    unknowns = sorted([-1 - sign for sign in signs if sign < 0])
    if len(unknowns) == 1:
        for guess in letter_guesses(book, unknowns, max(signs), (), lot):
            yield guess
        return
    for letter in range(len(book.deeds)):
        for guess in letter_guesses(book, unknowns, letter, (), lot):
            yield guess
    for deed, _ in lot.table:
        for guess in letter_guesses(book, unknowns, len(book.deeds), (("free", deed),), lot):
            yield guess


def letter_guesses(book, unknowns, letter, news, lot):
    """The guesses in which these unknowns begin with the letter, which may be the new one."""
    alone = (((letter, ONCE),), False, ())
    more = (((letter, ONCE),), True, ())
    deeds = book.deeds + tuple([deed for _, deed in news])
    choices = [()]
    for unknown in unknowns:
        fitting = [part for part in (alone, more) if part_fits(book.ends[unknown], part, deeds, lot)]
        choices = [choice + (part,) for choice in choices for part in fitting]
    guesses = []
    for choice in choices:
        parts = [WHOLE for _ in book.ends]
        for unknown, part in zip(unknowns, choice):
            parts[unknown] = part
        guesses.append(unpressed_guess(book, tuple(parts), news, deeds, lot))
    return guesses


def unpressed_guess(book, parts, news, deeds, lot):
    """The guess with these parts, if nothing is pressed; deeds are those of the old and the new letters."""
    rows = [tuple([tuple([sign for sign, _ in opened_side(side, parts)]) for side in row]) for row in book.rows]
    return told_guess(parts, news, rows, deeds, parted_ends(book, parts, deeds), (), lot)


def parted_ends(book, parts, deeds):
    """The ends that the parts leave the unknowns; one that does not stay keeps its own."""
    return [left_ends(ends, front, back, deeds) if stays else ends
            for ends, (front, stays, back) in zip(book.ends, parts)]
