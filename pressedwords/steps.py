"""Steps: which one the search takes, and which ones may be taken [6.7, 6.8]."""

from pressedwords.books import is_sequence, is_whole, letter_places, neighbours, unknown_places
from pressedwords.errors import BadStep
from pressedwords.parting import best_neighbours, parting


def told_step(book):
    """The step that the search takes at a settled book, or None if it has no rows."""
    if not book.rows:
        return None
    beside = neighbours(book)
    if not beside:
        return ("first", 0)
    if letter_places(book) > 15 * unknown_places(book) + 2 * len(book.rows):
        alike = sum([many for couple, many in beside if couple[0] == couple[1]])
        if 2 * alike > sum([many for _, many in beside]):
            return ("block", letters_alike(beside))
        firsts, seconds = parting(book)
        return ("pair", firsts, seconds)
    one, other = best_neighbours(book)
    return ("block", (one,)) if one == other else ("pair", (one,), (other,))


def letters_alike(beside):
    """The letters that stand beside themselves, ascending."""
    return tuple([couple[0] for couple, _ in beside if couple[0] == couple[1]])


def let_step(book, step):
    """The step as tuples if it may be taken at the settled book."""
    if not is_sequence(step) or len(step) == 0 or not isinstance(step[0], str):
        raise BadStep()
    if step[0] == "first" and len(step) == 2 and is_whole(step[1]) and 0 <= step[1] < len(book.rows):
        return ("first", step[1])
    if step[0] == "pair" and len(step) == 3 and pairs_let(book, step[1], step[2]):
        return ("pair", tuple(list(step[1])), tuple(list(step[2])))
    if step[0] == "block" and len(step) == 2 and blocks_let(book, step[1]):
        return ("block", tuple(list(step[1])))
    raise BadStep()


def are_letters(thing, book):
    """Whether this is a sequence of letters of the book, ascending and not empty."""
    if not is_sequence(thing) or len(thing) == 0 or not all([is_whole(letter) for letter in thing]):
        return False
    # Ascending ones are in range if the first one and the last one are.
    return 0 <= thing[0] and thing[-1] < len(book.deeds) and all(
        [thing[at - 1] < thing[at] for at in range(1, len(thing))])


def pairs_let(book, firsts, seconds):
    """Whether the pair step may be taken with these letters [6.1]."""
    if not are_letters(firsts, book) or not are_letters(seconds, book):
        return False
    if any([letter in seconds for letter in firsts]):
        return False
    return any([couple[0] in firsts and couple[1] in seconds for couple, _ in neighbours(book)])


def blocks_let(book, letters):
    """Whether each of these letters stands beside itself."""
    if not are_letters(letters, book):
        return False
    alike = letters_alike(neighbours(book))
    return all([letter in alike for letter in letters])
