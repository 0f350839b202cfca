"""The guesses of any step, and what comes of a guess [6.9]."""

from pressedwords.blocks import block_guesses
from pressedwords.books import Clash
from pressedwords.carries import Carries, whole
from pressedwords.first import first_guesses
from pressedwords.pairs import pair_guesses
from pressedwords.steps import let_step


def guesses_of(book, step, lot):
    """The guesses of a step that may be taken at a settled book."""
    step = let_step(book, step)
    if step[0] == "first":
        row = step[1]
        yield from first_guesses(book, row, lot)
    elif step[0] == "pair":
        firsts, seconds = step[1:]
        yield from pair_guesses(book, firsts, seconds, lot)
    else:
        letters = step[1]
        yield from block_guesses(book, letters, lot)


def outcome_of(guess):
    """What comes of a guess: a Clash, the Carries of equations without an answer, or a Book."""
    if isinstance(guess.told, Clash):
        return guess.told
    answer = whole(guess.equations)
    return answer if isinstance(answer, Carries) else guess.told
