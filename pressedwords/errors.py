"""The errors of the package [0.5]: each stands straight under PressError."""


class PressError(ValueError):
    """The base of all errors of the package."""


class BadBook(PressError):
    """A book that cannot be made: what is states, deeds, ends, rows or sign."""

    def __init__(self, what):
        self.what = what


class BadLetters(PressError):
    """The number of outer letters is no whole number from 1 to 3."""


class BadSaying(PressError):
    """No saying: what is deep, saying or side; many for a lot of sayings."""

    def __init__(self, what):
        self.what = what


class BadText(PressError):
    """A text that cannot be read; both count from 0."""

    def __init__(self, line, place):
        self.line = line
        self.place = place


class BadExpression(PressError):
    """No expression: what is marks, form or letter."""

    def __init__(self, what):
        self.what = what


class TooMany(PressError):
    """Texts have too many unlike deeds."""


class BadStep(PressError):
    """A step that may not be taken at a book."""


class BadEquation(PressError):
    """No system of equations: at is the equation's place."""

    def __init__(self, at, what):
        self.at = at
        self.what = what


class BadOrder(PressError):
    """No order in which a net looks at its books."""


class BadRoom(PressError):
    """No room of a net."""


class NotFilled(PressError):
    """A net that is not filled has no trail."""


class Ended(PressError):
    """A net has ended already; how is its verdict."""

    def __init__(self, how):
        self.how = how


class NoBook(PressError):
    """No book of a net has this number."""

    def __init__(self, number):
        self.number = number


class NotOpen(PressError):
    """The book with this number is not open."""

    def __init__(self, number):
        self.number = number


class NotLooked(PressError):
    """The book with this number was not looked at."""

    def __init__(self, number):
        self.number = number


class TooFull(PressError):
    """A net has no room left; waiting are its open numbers."""

    def __init__(self, waiting):
        self.waiting = waiting


class BadMany(PressError):
    """No number of hands."""


class NoHand(PressError):
    """No hand has this number."""

    def __init__(self, hand):
        self.hand = hand


class Busy(PressError):
    """The hand has a book already."""

    def __init__(self, hand):
        self.hand = hand


class Idle(PressError):
    """The hand has no book."""

    def __init__(self, hand):
        self.hand = hand


class NoReport(PressError):
    """No report that can be delivered has this number."""

    def __init__(self, report):
        self.report = report


class BadGrammar(PressError):
    """No grammar: at is the rule's place, or None."""

    def __init__(self, at):
        self.at = at


class NoSymbol(PressError):
    """No symbol of the grammar, or no word at all."""

    def __init__(self, symbol):
        self.symbol = symbol


class NoSign(PressError):
    """A text has no sign at this place."""

    def __init__(self, at):
        self.at = at


class TooLong(PressError):
    """A text with this length is longer than it may be."""

    def __init__(self, length):
        self.length = length


class EmptyWord(PressError):
    """A word without symbols has no symbol of its own."""


class NoCut(PressError):
    """A text cannot be cut at these places."""

    def __init__(self, begin, end):
        self.begin = begin
        self.end = end


class BadFilling(PressError):
    """No filling: at is the couple's place, or None."""

    def __init__(self, at):
        self.at = at


class NoName(PressError):
    """A filling has no such name."""

    def __init__(self, name):
        self.name = name


class NotShut(PressError):
    """A net that is not shut has no closed list."""


class OtherDeeds(PressError):
    """Two papers have unlike deeds."""


class BadPaperText(PressError):
    """No paper has this text."""


class TooWide(PressError):
    """Sayings have too many cases, or a case too many names."""

    def __init__(self, what):
        self.what = what


class BadScript(PressError):
    """No script: what is the fault of the statement at road."""

    def __init__(self, what, road):
        self.what = what
        self.road = road


class ShortInputs(PressError):
    """A script reads more inputs than there are."""

    def __init__(self, used):
        self.used = used


class NoIf(PressError):
    """No if stands at this road."""

    def __init__(self, road):
        self.road = road


class NoWay(PressError):
    """A script has no way with these turns."""

    def __init__(self, turns):
        self.turns = turns


class UnlikeScripts(PressError):
    """Two scripts have unlike numbers of letters."""


class BadDeed(PressError):
    """No deed of a desk: what is deed, many or field."""

    def __init__(self, what):
        self.what = what


class FullDesk(PressError):
    """A desk takes no further saying."""


class NoBack(PressError):
    """A desk has no saying to take back."""


class IsCut(PressError):
    """The engine of a desk is cut off."""


class NotCut(PressError):
    """The engine of a desk is not cut off."""


class NoEngine(PressError):
    """A desk has no engine to cut off."""


class NoPaper(PressError):
    """A desk knows no paper at this place."""

    def __init__(self, at):
        self.at = at


class NoScript(PressError):
    """A desk has no script."""


class NoStatement(PressError):
    """A script has no place at this road."""

    def __init__(self, road):
        self.road = road
