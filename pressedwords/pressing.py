"""Pressing: words of a grammar become one sign each, equal ones for equal texts [11.9 to 11.12].

What a rule or a word stands for is a row of items (what, many). A sign of the table has its number for what, and
stands there many times. A rule that is not pressed to a sign yet has -1 less its number for what, and many is 1. A
body is a tuple of such items, and stands there many times, which is 2 or more.
"""

from pressedwords.grammars import Grammar, trimmed_grammar
from pressedwords.parting import parted


class Pressed:
    """A table of rules no two of which have the same text, and for each word its symbol, or None."""

    def __init__(self, table, ends):
        self.table = table
        self.ends = ends

    def __eq__(self, other):
        return isinstance(other, Pressed) and self.table == other.table and self.ends == other.ends


class Edges:
    """The signs with which the texts of rows begin and end."""

    def __init__(self, rows, live):
        self.firsts = [None for _ in rows]
        self.lasts = [None for _ in rows]
        for number in live:
            if rows[number]:
                self.firsts[number] = self.first_of(rows[number][0])
                self.lasts[number] = self.last_of(rows[number][-1])

    def first_of(self, item):
        what = item[0][0][0] if isinstance(item[0], tuple) else item[0]
        return what if what >= 0 else self.firsts[-1 - what]

    def last_of(self, item):
        what = item[0][-1][0] if isinstance(item[0], tuple) else item[0]
        return what if what >= 0 else self.lasts[-1 - what]

    def couple(self, items, at):
        """The signs side by side where the item at this place begins; a body's first item is behind its last one."""
        return (self.last_of(items[at - 1]), self.first_of(items[at]))

    def couples(self, items):
        """The signs side by side where one item ends and the next one begins."""
        return [self.couple(items, at) for at in range(1, len(items))]


def joins(couple, sides):
    """Whether two signs side by side are pressed: equal ones, or with sides one of L ahead of one of R."""
    if sides is None:
        return couple[0] == couple[1]
    return sides.get(couple[0]) == "L" and sides.get(couple[1]) == "R"


class Giving:
    """What gives up its front or its end in one step: rules, by number, and the bodies of a row, by place.

    Only rules that a word needs are in needed; the others may be dropped.
    """

    def __init__(self, press, edges, sides):
        self.edges = edges
        self.sides = sides
        self.front = {}
        self.behind = {}
        self.needed = {number: True for number in range(press.many, len(press.rows))}
        self.turns = {}
        # A row comes behind all those in which it is used.
        for number in press.live[::-1]:
            if number in self.needed:
                items = press.rows[number]
                self.turns[number] = self.mark(items, number in self.front, number in self.behind)

    def mark(self, items, front, behind):
        """Marks what these items use, if they give up their front or their end; tells what their bodies do."""
        turns = {}
        for at, (what, _) in enumerate(items):
            if not isinstance(what, tuple) and what >= 0:
                continue
            ahead = joins(self.edges.couple(items, at), self.sides) if at > 0 else front
            after = joins(self.edges.couple(items, at + 1), self.sides) if at + 1 < len(items) else behind
            if isinstance(what, tuple):
                turning = joins(self.edges.couple(what, 0), self.sides)
                turns[at] = (ahead or turning, after or turning)
                self.mark(what, ahead or turning, after or turning)
            else:
                self.mark_rule(-1 - what, ahead, after)
        return turns

    def mark_rule(self, number, ahead, after):
        self.needed[number] = True
        if ahead:
            self.front[number] = True
        if after:
            self.behind[number] = True


class Press:
    """The rows of a grammar's rules, then those of some words, and the table that grows as they are pressed.

    live has the numbers of the rows that are not put in for good where they are used.
    """

    def __init__(self, grammar, words):
        self.table = []
        self.made = {}
        self.rows = [self.rule_row(rule) for rule in grammar.rules]
        self.many = len(self.rows)
        self.rows.extend([[(-1 - symbol, 1) for symbol in word] for word in words])
        self.live = list(range(len(self.rows)))

    def rule_row(self, rule):
        """The items of a rule of the grammar."""
        if rule[0] == "text":
            return [(self.sign(("text", letter)), 1) for letter in rule[1]]
        if rule[0] == "pair":
            return [(-1 - rule[1], 1), (-1 - rule[2], 1)]
        return repeated([(-1 - rule[1], 1)], rule[2])

    def sign(self, rule):
        """The sign of the table with this rule."""
        if rule not in self.made:
            self.made[rule] = len(self.table)
            self.table.append(rule)
        return self.made[rule]

    def press(self):
        """Presses until each word is empty or one sign."""
        # Without letters to press, a step only puts rules that are one sign in the places where they are used.
        self.press_once(Edges(self.rows, self.live), {})
        written = False
        while not all([is_pressed(items) for items in self.rows[self.many:]]):
            self.press_once(Edges(self.rows, self.live), None)
            edges = Edges(self.rows, self.live)
            self.press_once(edges, self.sides_of(edges, written))
            # In turn the places in the texts count, which makes these short, and those in the rows.
            written = not written

    def press_once(self, edges, sides):
        """Presses each block of equal signs, or with sides each sign of L ahead of one of R."""
        giving = Giving(self, edges, sides)
        given = {}
        live = []
        for number in self.live:
            if number not in giving.needed:
                continue
            turns = giving.turns[number]
            items = put_in(self.rows[number], turns, given)
            head = [items.pop(0)] if number in giving.front and items else []
            tail = [items.pop()] if number in giving.behind and items else []
            items = self.pressed_row(items, sides)
            if turns:
                items = taken_back(items)
            if number < self.many and is_short(items):
                given[number] = head + items + tail
            else:
                given[number] = head + [(-1 - number, 1)] + tail
                live.append(number)
            self.rows[number] = items
        self.live = list(live)

    def pressed_row(self, items, sides):
        """The items with a sign of the table for whatever is pressed."""
        pressed = []
        for what, many in items:
            if isinstance(what, tuple):
                pressed.extend(repeated(self.pressed_row(what, sides), many))
            elif what >= 0 and sides is None and many > 1:
                pressed.append((self.sign(("row", what, many)), 1))
            elif sides and pressed and what in sides and joins((pressed[-1][0], what), sides):
                pressed.append((self.sign(("pair", pressed.pop()[0], what)), 1))
            else:
                pressed.append((what, many))
        return pressed

    def occurrences(self):
        """For each row how often it occurs in the texts of the words."""
        often = [0] * self.many + [1] * (len(self.rows) - self.many)
        for number in self.live[::-1]:
            copies = often[number]
            # Sums are written out, since `+=` may not take what comes from the very list that it changes.
            for what, many in self.rows[number]:
                if isinstance(what, tuple):
                    for other, _ in what:
                        if other < 0:
                            often[-1 - other] = often[-1 - other] + copies * many
                elif what < 0:
                    often[-1 - what] = often[-1 - what] + copies
        return often

    def sides_of(self, edges, written):
        """For the signs of L and R which of both they are in, parted by the worths of all signs side by side."""
        often = [1 for _ in self.rows] if written else self.occurrences()
        worths = {}
        for number in self.live:
            items = self.rows[number]
            for couple in edges.couples(items):
                worths[couple] = worths.get(couple, 0) + often[number]
            for what, many in items:
                if isinstance(what, tuple):
                    copies = 1 if written else many
                    for couple in edges.couples(what):
                        worths[couple] = worths.get(couple, 0) + often[number] * copies
                    couple = edges.couple(what, 0)
                    worths[couple] = worths.get(couple, 0) + often[number] * max(copies - 1, 1)
        firsts, seconds = parted([(couple, worths[couple]) for couple in sorted(worths)])
        sides = {sign: "L" for sign in firsts}
        for sign in seconds:
            sides[sign] = "R"
        return sides


def is_short(items):
    """Whether a row can be put in where it is used: it is empty, or one item without a body."""
    return len(items) == 0 or (len(items) == 1 and not isinstance(items[0][0], tuple))


def is_pressed(items):
    """Whether a word is empty or one sign."""
    return len(items) == 0 or (is_short(items) and items[0][0] >= 0 and items[0][1] == 1)


def put_in(items, turns, given):
    """The items with what is given for each rule in its place; bodies that give something up are turned."""
    put = []
    for at, (what, many) in enumerate(items):
        if isinstance(what, tuple):
            front, behind = turns[at]
            put.extend(turned(put_in(what, {}, given), many, front, behind))
        elif what < 0:
            put.extend(given[-1 - what])
        else:
            put.append((what, many))
    return merged(put)


def merged(items):
    """The items with equal signs side by side as one item."""
    row = []
    ahead = None
    for item in items:
        what = item[0]
        if what == ahead and not isinstance(what, tuple) and what >= 0:
            row.append((what, row.pop()[1] + item[1]))
        else:
            row.append(item)
        ahead = what
    return row


def turned(body, many, front, behind):
    """A body many times, with its first item, or else its last one, put outside if the body gives it up."""
    if is_short(body):
        return repeated(body, many)
    if front:
        return body[:1] + repeated(merged(body[1:] + body[:1]), many - 1) + body[1:]
    if behind:
        return body[:-1] + repeated(merged(body[-1:] + body[:-1]), many - 1) + body[-1:]
    return repeated(body, many)


def taken_back(items):
    """The items with copies of a body beside it taken into it.

    A body that was turned leaves a part of a copy outside, which the next turn makes whole. So rows stay short.
    """
    row = list(items)
    at = 0
    while at < len(row):
        what, many = row[at]
        if isinstance(what, tuple):
            body = list(what)
            while row[at + 1:at + 1 + len(body)] == body:
                del row[at + 1:at + 1 + len(body)]
                many += 1
            while at >= len(body) and row[at - len(body):at] == body:
                del row[at - len(body):at]
                at -= len(body)
                many += 1
            row[at] = (what, many)
        at += 1
    return row


def repeated(body, many):
    """The items of a body that stands there many times."""
    if many == 1 or len(body) == 0:
        return list(body)
    if len(body) == 1 and not isinstance(body[0][0], tuple) and body[0][0] >= 0:
        return [(body[0][0], body[0][1] * many)]
    return [(tuple(body), many)]


def press_words(grammar, words):
    """The Pressed of all words."""
    trimmed, kept = trimmed_grammar(grammar, words)
    press = Press(trimmed, kept)
    press.press()
    ends = [tuple([what for what, _ in items]) for items in press.rows[press.many:]]
    table, symbols = trimmed_grammar(Grammar(press.table), ends)
    return Pressed(table, tuple([word[0] if word else None for word in symbols]))


def same_text(grammar, one, other):
    """Whether two words have the same text."""
    if grammar.word_length(one) != grammar.word_length(other):
        return False
    first, second = press_words(grammar, (one, other)).ends
    return first == second


def first_unlike(grammar, one, other):
    """The first place at which the texts of two words are unlike, the shorter length, or None."""
    pressed = press_words(grammar, (one, other))
    rules = pressed.table.rules
    lefts, rights = [[] if end is None else [(end, 1)] for end in pressed.ends]
    if lefts == rights:
        return None
    at = 0
    # Of two unlike symbols the greater one is never in the text of the other, so that it is opened.
    while lefts and rights:
        left, many = lefts.pop()
        right, more = rights.pop()
        if left == right:
            least = min(many, more)
            at += least * pressed.table.lengths[left]
            put_back(lefts, left, many - least)
            put_back(rights, right, more - least)
        elif rules[max(left, right)][0] == "text":
            return at
        else:
            put_opened(lefts, rules, left, many, left > right)
            put_opened(rights, rules, right, more, right > left)
    return at


def put_back(waiting, symbol, many):
    if many > 0:
        waiting.append((symbol, many))


def put_opened(waiting, rules, symbol, many, opened):
    """Puts a symbol back that stands there many times, its first copies opened if this is asked."""
    rule = rules[symbol]
    if not opened:
        waiting.append((symbol, many))
    elif rule[0] == "row":
        waiting.append((rule[1], rule[2] * many))
    else:
        put_back(waiting, symbol, many - 1)
        waiting.extend([(rule[2], 1), (rule[1], 1)])
