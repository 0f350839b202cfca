"""Machines that read a text sign by sign and tell whether an expression has it."""

BEGINNING = 1


class Machine:
    """The places of an expression at which a text may stand, as bits of one number.

    Bit 0 is the beginning; every mark of a letter or of any letter has a further bit.
    """

    def __init__(self, expression):
        self.signs = [""]
        self.follows = [0]
        empty, firsts, lasts = self.put_in(expression)
        self.follows[0] = firsts
        self.lasts = lasts | BEGINNING if empty else lasts
        self.fitting = {letter: self.places_of(letter) for letter in "abc"}

    def put_in(self, expression):
        """Whether the expression has the empty text, its first places and its last places."""
        word = expression[0]
        if word == "letter":
            return self.put_sign(expression[1])
        if word == "any":
            return self.put_sign("abc")
        if word == "empty":
            return True, 0, 0
        if word == "again":
            _, firsts, lasts = self.put_in(expression[1])
            self.lead(lasts, firsts)
            return True, firsts, lasts
        return self.put_both(word, self.put_in(expression[1]), self.put_in(expression[2]))

    def put_sign(self, letters):
        place = 1 << len(self.signs)
        self.signs.append(letters)
        self.follows.append(0)
        return False, place, place

    def put_both(self, word, left, right):
        """The same three things of two parts, of which either is taken or one stands behind the other."""
        empty, firsts, lasts = left
        empty_behind, firsts_behind, lasts_behind = right
        if word == "either":
            return empty or empty_behind, firsts | firsts_behind, lasts | lasts_behind
        self.lead(lasts, firsts_behind)
        return (empty and empty_behind,
                firsts | firsts_behind if empty else firsts,
                lasts | lasts_behind if empty_behind else lasts_behind)

    def lead(self, places, onward):
        for at in range(len(self.follows)):
            if places >> at & 1:
                self.follows[at] = self.follows[at] | onward

    def places_of(self, letter):
        return sum([1 << at for at in range(len(self.signs)) if letter in self.signs[at]])

    def after(self, places, letter):
        """The places to which a letter leads from these places."""
        onward = 0
        for at in range(len(self.follows)):
            if places >> at & 1:
                onward = onward | self.follows[at]
        return onward & self.fitting[letter]

    def takes(self, places):
        """Whether a text that leads to these places is one of the expression's."""
        return places & self.lasts != 0

    def letter_leads(self, letter):
        """For each place the places to which a letter leads from it."""
        return tuple([self.after(1 << at, letter) for at in range(len(self.follows))])


# The leads of a text are, for each place of a machine, the places to which the text leads from it.


def places_behind(places, leads):
    """The places to which a text of these leads leads from these places."""
    onward = 0
    for at, behind in enumerate(leads):
        if places >> at & 1:
            onward = onward | behind
    return onward


def leads_along(parts):
    """The leads of some texts behind one another, one or more."""
    along = parts[0]
    for part in parts[1:]:
        # Many places lead to the same ones, which are gone on from once.
        behind = {places: places_behind(places, part) for places in sorted(set(along))}
        along = tuple([behind[places] for places in along])
    return along


def leads_times(leads, many):
    """The leads of a text that stands so many times, once or more."""
    power = leads
    square = leads
    rest = many - 1
    while rest > 0:
        if rest & 1:
            power = leads_along([power, square])
        square = leads_along([square, square])
        rest = rest // 2
    return power
