"""The block step: every block of a block letter becomes one letter [7.4 to 7.8]."""

from pressedwords.deeds import deed_times
from pressedwords.forms import form_gap, form_sum, least_class_row, length_choices, next_class_row
from pressedwords.guesses import ONCE, combined, opened_side, told_guess


class Shape:
    """What becomes of one unknown: its blocks in front and behind, and the ends of the rest, if there is one."""

    def __init__(self, front, stays, back, ends):
        self.front = front
        self.stays = stays
        self.back = back
        self.ends = ends

    def __eq__(self, other):
        return (isinstance(other, Shape) and self.front == other.front and self.stays == other.stays
                and self.back == other.back and self.ends == other.ends)


def shapes_of(book, unknown, letters, lot):
    """The shapes of one unknown for these block letters."""
    fronts, backs = edge_letters(book, -1 - unknown, letters)
    choices = [length_choices(deed) for deed in book.deeds]
    shapes = []
    for front, stays, back in outlines(fronts, backs):
        rows = [choices[letter] for letter in front + back]
        for lengths in combined(rows):
            blocks = tuple([(letter, number, period) for letter, (number, period) in zip(front + back, lengths)])
            shape = Shape(blocks[:len(front)], stays, blocks[len(front):], book.ends[unknown])
            shapes.extend(fitting_shape(shape, book.deeds, lot))
    return tuple(shapes)


def edge_letters(book, unknown, letters):
    """The fronts and the backs of the unknown that this sign is."""
    ahead = []
    behind = []
    for row in book.rows:
        for side in row:
            for sign, then in zip(side, side[1:]):
                if then == unknown:
                    ahead.append(sign)
                if sign == unknown:
                    behind.append(then)
    return letters_among(letters, ahead), letters_among(letters, behind)


def letters_among(letters, signs):
    """Those of the letters that are among the signs, or all of them if an unknown is."""
    crossed = any([sign < 0 for sign in signs])
    return [letter for letter in letters if crossed or letter in signs]


def outlines(fronts, backs):
    """The letters in front, whether something stays, and the letters behind, of all shapes in their order."""
    edges = sorted(set(fronts + backs))
    rows = [((letter,), False, ()) for letter in edges]
    rows.extend([((one, other), False, ()) for one in fronts for other in backs if one != other])
    rows.extend([((one,), True, (other,)) for one in fronts for other in backs])
    rows.extend([((one,), True, ()) for one in fronts])
    rows.extend([((), True, (other,)) for other in backs])
    return rows + [((), True, ())]


def fitting_shape(shape, deeds, lot):
    """The shape, which has the ends of the unknown still, with the ends of its rest; nothing if it does not fit."""
    start, goals = shape.ends
    for letter, number, _ in shape.front:
        start = deed_times(deeds[letter], number)[start]
    if not shape.stays:
        return [shape] if start in goals else []
    for letter, number, _ in shape.back:
        deed = deed_times(deeds[letter], number)
        goals = tuple([state for state in range(len(deed)) if deed[state] in goals])
    if lot.path_text(start, goals) is None:
        return []
    return [Shape(shape.front, True, shape.back, (start, goals))]


def block_guesses(book, letters, lot):
    """The guesses of the block step with these block letters."""
    choices = [shapes_of(book, unknown, letters, lot) for unknown in range(len(book.ends))]
    for shapes in combined(choices):
        blocked = Blocked(book, shapes, letters, lot)
        factor_rows = blocked.factor_rows
        for classes in class_choices(factor_rows):
            yield blocked.guess(classes)


class Blocked:
    """The opened rows of one choice of shapes, and what all guesses of this choice share.

    The unlike couples (letter, form) of the blocks are listed by first place; others are the signs that are no blocks.
    A slot is the place of a couple in the list, or, behind these, that of a sign among the others. Places among all
    groups go on from one group to the next; homes has for each couple its own and that of the first one of its group.
    """

    def __init__(self, book, shapes, letters, lot):
        self.book = book
        self.lot = lot
        self.parts, many = formed_parts(shapes)
        self.ends = [shape.ends for shape in shapes]
        rows = [[blocked_side(opened_side(side, self.parts), letters, many) for side in row] for row in book.rows]
        powers = block_deeds(rows, book.deeds)
        self.couples = list(powers)
        self.powers = list(powers.values())
        self.others = sorted(set([sign for row in rows for side in row for sign, form in side if form is None]))
        slots = {couple: slot for slot, couple in enumerate(self.couples + [(sign, None) for sign in self.others])}
        self.rows = [tuple([tuple([slots[couple] for couple in side]) for side in row]) for row in rows]
        homes = {}
        self.factor_rows = []
        for group in grouped(powers):
            begin = len(homes)
            for couple in group:
                homes[couple] = (len(homes), begin)
            self.factor_rows.append([couple[1][1] for couple in group])
        self.homes = [homes[couple] for couple in self.couples]
        self.gaps = {}

    def guess(self, classes):
        """The guess for this choice of a class row for each group."""
        entries = [entry for row in classes for entry in row]
        # Classes of unlike groups have unlike names, since a group has no more classes than couples.
        names = [entries[place] + begin for place, begin in self.homes]
        members = {}
        for slot, name in enumerate(names):
            members.setdefault(name, []).append(slot)
        numbers = {name: number for number, name in enumerate(members, start=len(self.book.deeds))}
        signs = [numbers[name] for name in names] + self.others
        pressed = [tuple([tuple([signs[slot] for slot in side]) for side in row]) for row in self.rows]
        classed = list(members.values())
        firsts = [slots[0] for slots in classed]
        news = tuple([("row",) + self.couples[slot] for slot in firsts])
        deeds = self.book.deeds + tuple([self.powers[slot] for slot in firsts])
        equations = tuple([self.gap(slot, slots[0]) for slots in classed for slot in slots[1:]])
        return told_guess(self.parts, news, pressed, deeds, self.ends, equations, self.lot)

    def gap(self, slot, first):
        """The gap between the forms of two couples; many guesses ask for the same one."""
        if (slot, first) not in self.gaps:
            self.gaps[(slot, first)] = form_gap(self.couples[slot][1], self.couples[first][1])
        return self.gaps[(slot, first)]


def formed_parts(shapes):
    """The parts of these shapes, and how many variables their forms have."""
    periods = [period for shape in shapes for _, _, period in shape.front + shape.back if period > 0]
    many = len(periods)
    parts = []
    at = 0
    for shape in shapes:
        sides = []
        for blocks in (shape.front, shape.back):
            couples = []
            for letter, number, period in blocks:
                factors = [0 for _ in periods]
                if period > 0:
                    factors[at] = period
                    at += 1
                couples.append((letter, (number, tuple(factors))))
            sides.append(tuple(couples))
        parts.append((sides[0], shape.stays, sides[1]))
    return tuple(parts), many


def blocked_side(opened, letters, many):
    """The opened side with each block as one couple (letter, form); beside any other sign stands None."""
    single = (1, (0,) * many)
    side = []
    for sign, form in opened:
        if sign not in letters:
            side.append((sign, None))
            continue
        forms = [single if form == ONCE else form]
        if side and side[-1][0] == sign:
            forms.append(side.pop()[1])
        side.append((sign, form_sum(forms, many)))
    return side


def block_deeds(rows, deeds):
    """The unlike couples (letter, form) of blocks, by first place, each with its deed."""
    powers = {}
    for row in rows:
        for side in row:
            for couple in side:
                if couple[1] is not None and couple not in powers:
                    powers[couple] = deed_times(deeds[couple[0]], couple[1][0])
    return powers


def grouped(powers):
    """The groups: rows of couples (letter, form) of one letter and one deed."""
    groups = {}
    for couple, deed in powers.items():
        groups.setdefault((couple[0], deed), []).append(couple)
    # Groups of one letter keep the order of their first places.
    return [groups[name] for name in sorted(groups, key=lambda group: group[0])]


def class_choices(factor_rows):
    """All choices of a class row for each group, those of the last group changing fastest."""
    rows = [least_class_row((), factors) for factors in factor_rows]
    while True:
        yield tuple(rows)
        at = len(rows) - 1
        while at >= 0:
            row = next_class_row(rows[at], factor_rows[at])
            rows[at] = least_class_row((), factor_rows[at]) if row is None else row
            if row is not None:
                break
            at -= 1
        if at < 0:
            return
