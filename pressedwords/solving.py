"""Solving: for all sayings one filling, or a closed list that shows that there is none [14.7 to 14.11]."""

from pressedwords.cases import cases_of, check_sayings, expressions_in, lot_for
from pressedwords.fillings import chosen_filling
from pressedwords.judging import judge_list
from pressedwords.nets import Net
from pressedwords.papers import Shut, closed_list, deeds_in
from pressedwords.roots import roots_of
from pressedwords.sayings import names_of
from pressedwords.trails import trail_of
from pressedwords.unfolding import unfold


class Solving:
    """A search that goes on step by step; told is None until it has ended."""

    def __init__(self, sayings, letters=2, order="first", *, room=300, known=None):
        self.cases = cases_of(sayings, letters)
        self.sayings = check_sayings(sayings, letters)
        self.letters = letters
        self.watcher, self.lot = lot_for(sayings, letters)
        rooted = roots_by_case(self.cases, self.sayings, self.watcher, self.lot)
        self.roots = tuple([root for _, root in rooted])
        self.owners = tuple([number for number, _ in rooted])
        self.known = known if known is not None and known.deeds == deeds_in(self.lot) else None
        books = () if self.known is None else self.known.books
        self.net = Net([root.told for root in self.roots], self.lot, order, room=room, known=books)
        self.order = self.net.order
        self.room = self.net.room
        self.told = None
        self.refresh()

    @property
    def ended(self):
        return self.told is not None

    def advance(self):
        """Lets the net advance once."""
        self.net.advance()
        self.refresh()

    def refresh(self):
        """Sets what the net's verdict tells anew, and returns it."""
        self.told = None
        if self.net.verdict == "shut":
            self.told = Shut(closed_list(self.net, self.known))
        elif self.net.verdict == "filled":
            self.told = self.net_filling()
        return self.told

    def net_filling(self):
        """The Filling that the trail of the net tells, of just the names in the sayings."""
        trail = trail_of(self.net)
        root = self.roots[trail.root]
        names = [name for saying in self.sayings for name in names_of(saying)]
        placed = self.cases[self.owners[trail.root]].names
        free = sorted(set([name for name in names if name not in placed]))
        filling = unfold(trail, root.letters, root.unknowns, root.spares, root.empties + tuple(free), self.lot)
        return chosen_filling(filling, names)


def roots_by_case(cases, sayings, watcher, lot):
    """Couples of a case's number and a root of it, case by case."""
    expressions = expressions_in(sayings)
    return [(number, root) for number, case in enumerate(cases)
            for root in roots_of(case, expressions, watcher, lot)]


def solve(sayings, letters=2, order="first", *, room=300, known=None):
    """A Filling that makes all sayings hold, or a Shut that shows that there is none."""
    solving = Solving(sayings, letters, order, room=room, known=known)
    while not solving.ended:
        solving.advance()
    return solving.told


def judge_shut(sayings, letters, shut):
    """Why a Shut does not show that no texts make all sayings hold, or None."""
    cases = cases_of(sayings, letters)
    watcher, lot = lot_for(sayings, letters)
    rooted = roots_by_case(cases, check_sayings(sayings, letters), watcher, lot)
    return judge_list([root.told for _, root in rooted], shut.paper, lot)


def follows(sayings, saying, letters=2, order="first", *, room=300):
    """Shut if the saying holds whenever all sayings hold, else a Filling for which it does not."""
    checked = check_sayings(sayings, letters)
    return solve(checked + (("not", saying),), letters, order, room=room)
