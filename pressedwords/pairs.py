"""The pair step: every letter of L with a letter of R directly behind it becomes one letter [6.1 to 6.3]."""

from pressedwords.deeds import deed_after
from pressedwords.first import WHOLE, part_fits, parted_ends
from pressedwords.guesses import ONCE, combined, opened_side, told_guess


def pair_guesses(book, firsts, seconds, lot):
    """The guesses of the pair step with L = firsts and R = seconds."""
    in_front, behind = crossed_unknowns(book, firsts, seconds)
    choices = []
    for unknown, ends in enumerate(book.ends):
        parts = pair_parts(seconds if unknown in in_front else (), firsts if unknown in behind else ())
        choices.append([part for part in parts if part_fits(ends, part, book.deeds, lot)])
    for parts in combined(choices):
        yield pair_guess(book, parts, firsts, seconds, lot)


def crossed_unknowns(book, firsts, seconds):
    """The unknowns that are crossed in front and those that are crossed behind, as two dicts of True."""
    in_front = {}
    behind = {}
    for row in book.rows:
        for side in row:
            for sign, then in zip(side, side[1:]):
                if then < 0 and (sign < 0 or sign in firsts):
                    in_front[-1 - then] = True
                if sign < 0 and (then < 0 or then in seconds):
                    behind[-1 - sign] = True
    return in_front, behind


def pair_parts(seconds, firsts):
    """The choices of an unknown that may give up these letters in front and those behind."""
    fronts = [((letter, ONCE),) for letter in seconds]
    backs = [((letter, ONCE),) for letter in firsts]
    parts = [(given, False, ()) for given in fronts + backs]
    parts.extend([(front + back, False, ()) for front in fronts for back in backs])
    parts.extend([(front, True, ()) for front in fronts])
    parts.extend([((), True, back) for back in backs])
    parts.extend([(front, True, back) for front in fronts for back in backs])
    return parts + [WHOLE]


def pair_guess(book, parts, firsts, seconds, lot):
    """The guess with these parts."""
    many = len(book.deeds)
    numbers = {}
    rows = []
    for left, right in book.rows:
        pressed = pressed_side(opened_side(left, parts), firsts, seconds, many, numbers)
        rows.append((pressed, pressed_side(opened_side(right, parts), firsts, seconds, many, numbers)))
    news = tuple([("pair", one, other) for one, other in numbers])
    deeds = book.deeds + tuple([deed_after(book.deeds[one], book.deeds[other]) for one, other in numbers])
    return told_guess(parts, news, rows, deeds, parted_ends(book, parts, deeds), (), lot)


def pressed_side(opened, firsts, seconds, many, numbers):
    """The side with new letters, from the number many on, for the couples that are pressed.

    numbers has the new letter of each couple met so far, and is given those that are met here.
    """
    pressed = []
    ahead = None
    for sign, _ in opened:
        if ahead in firsts and sign in seconds:
            pressed[-1] = numbers.setdefault((ahead, sign), many + len(numbers))
        else:
            pressed.append(sign)
        ahead = sign
    return tuple(pressed)
