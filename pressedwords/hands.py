"""Hands, which look at the open books of a net and report what they see [10.3 to 10.8]."""

from pressedwords.books import is_whole
from pressedwords.booktext import read_whole
from pressedwords.errors import BadMany, BadText, Busy, Idle, NoHand, NoReport
from pressedwords.nettext import net_text, read_net

MOST_HANDS = 6


class Hands:
    """Hands at a net: held has for each hand its book's number or None, written for each report its book's or None."""

    def __init__(self, net, many):
        if not is_whole(many) or not 1 <= many <= MOST_HANDS:
            raise BadMany()
        self.net = net
        self.many = many
        self.held = [None for _ in range(many)]
        self.written = []

    @property
    def reports(self):
        return tuple([report for report, number in enumerate(self.written) if number is not None])

    def take(self, hand):
        """Gives the hand the least open book that no hand has, and returns its number, or None if there is none."""
        if self.holds(hand) is not None:
            raise Busy(hand)
        if self.net.ended:
            return None
        for number in self.net.open_books:
            if number not in self.held:
                self.held[hand] = number
                return number
        return None

    def drop(self, hand):
        """Takes the hand's book away."""
        self.ask_busy(hand)
        self.held[hand] = None

    def write(self, hand):
        """Writes a report of the look at the hand's book, and returns the report's number."""
        self.ask_busy(hand)
        # Looks at a book are always the same, so the report is worked out when it is delivered.
        self.written.append(self.held[hand])
        return len(self.written) - 1

    def holds(self, hand):
        """The number of the hand's book, or None."""
        if not is_whole(hand) or not 0 <= hand < self.many:
            raise NoHand(hand)
        return self.held[hand]

    def ask_busy(self, hand):
        if self.holds(hand) is None:
            raise Idle(hand)

    def deliver(self, report):
        """Takes the report's look in if its book is open still, and returns whether it was."""
        self.ask_report(report)
        number = self.written[report]
        if self.net.ended or number not in self.net.open_books:
            return False
        self.net.look_at(number)
        self.held = [None if held == number else held for held in self.held]
        return True

    def lose(self, report):
        """Makes the report one that is never delivered again."""
        self.ask_report(report)
        self.written[report] = None

    def ask_report(self, report):
        if not is_whole(report) or not 0 <= report < len(self.written) or self.written[report] is None:
            raise NoReport(report)

    def forget(self, number):
        """Makes a looked book of the net open again."""
        self.net.forget(number)

    def finish(self):
        """Works until the net has ended, and returns how many looks were taken in."""
        looks = 0
        while not self.net.ended:
            busy = [hand for hand, number in enumerate(self.held) if number is not None]
            if busy:
                report = self.write(busy[0])
                self.deliver(report)
                looks += 1
            else:
                self.take(0)
        return looks


def hands_text(hands):
    """The hands as lines, with those of their net."""
    held = ["-" if number is None else str(number) for number in hands.held]
    written = ["lost" if number is None else str(number) for number in hands.written]
    return "\n".join([" ".join(["hands"] + held), " ".join(["reports"] + written), net_text(hands.net)])


def read_hands(text, lot, known=()):
    """The hands that are printed in this way, which go on as those."""
    lines = text.split("\n")
    held = read_row(lines, 0, "hands", "-")
    if not 1 <= len(held) <= MOST_HANDS:
        raise BadText(0, 0)
    written = read_row(lines, 1, "reports", "lost")
    try:
        net = read_net("\n".join(lines[2:]), lot, known)
    except BadText as misfit:
        raise BadText(misfit.line + 2, 0) from None
    numbers = [number for number in held if number is not None]
    if len(set(numbers)) < len(numbers) or not all([number in net.open_books for number in numbers]):
        raise BadText(0, 0)
    if not all([can_report(net, number) for number in written if number is not None]):
        raise BadText(1, 0)
    hands = Hands(net, len(held))
    hands.held = held
    hands.written = written
    return hands


def read_row(lines, at, word, none):
    """The numbers behind the first word of a line, with None where the word none stands."""
    words = lines[at].split(" ") if at < len(lines) else [""]
    numbers = [None if other == none else read_whole(other) for other in words[1:]]
    if words[0] != word or any([number is None and other != none for number, other in zip(numbers, words[1:])]):
        raise BadText(at, 0)
    return numbers


def can_report(net, number):
    """Whether a hand may have written a report of the book with this number."""
    return number < len(net) and len(net.books[number].rows) > 0 and number not in net.borrowed
