"""Parting the letters of a book into those that press from the left and those that press from the right [6.5, 6.6]."""

from pressedwords.books import neighbours


def parting(book):
    """The letters L and R of which at least a fourth of the unlike neighbours are one of L ahead of one of R."""
    return parted(neighbours(book))


def parted(neighbouring):
    """The same of couples (neighbours, worth of their places); like neighbours do not count."""
    unlike = [(couple, many) for couple, many in neighbouring if couple[0] != couple[1]]
    aheads = {}
    behinds = {}
    for (ahead, behind), many in unlike:
        behinds.setdefault(ahead, []).append((behind, many))
        aheads.setdefault(behind, []).append((ahead, many))
    left = {}
    right = {}
    for letter in sorted(set([one for couple, _ in unlike for one in couple])):
        if worth(aheads.get(letter, []), left, right) > worth(behinds.get(letter, []), right, left):
            right[letter] = True
        else:
            left[letter] = True
    pressed = [couple for couple, _ in unlike if couple[0] in left and couple[1] in right]
    return tuple(sorted(set([one for one, _ in pressed]))), tuple(sorted(set([other for _, other in pressed])))


def worth(beside, good, bad):
    """What a letter beside these is worth, if it goes to the place that those in good press with."""
    return sum([0 if letter in bad else 4 * many if letter in good else 2 * many for letter, many in beside])


def best_neighbours(book):
    """The couple of neighbours that stands most often, of several the least; None without neighbours."""
    best = None
    most = 0
    for couple, many in neighbours(book):
        if many > most:
            best, most = couple, many
    return best
