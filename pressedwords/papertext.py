"""The printed form of papers [13.8]."""

from pressedwords.booktext import book_text, read_book, read_whole
from pressedwords.carries import Carries
from pressedwords.errors import BadPaperText, BadText
from pressedwords.papers import Entry, Paper


def paper_text(paper):
    """The paper as lines."""
    lines = ["paper " + str(len(paper.deeds))]
    lines.extend([printed(["deed"], deed) for deed in paper.deeds])
    for entry in paper.entries:
        lines.extend(["entry", book_text(entry.book), step_text(entry.step)])
        for place, carries in entry.lots:
            lines.append("shut " + str(place))
            lines.extend([printed(["carry"], row) for row in carries.rows])
    return "\n".join(lines)


def printed(words, numbers):
    return " ".join(words + [str(number) for number in numbers])


def step_text(step):
    if step[0] == "first":
        return printed(["step", "first"], step[1:])
    if step[0] == "block":
        return printed(["step", "block"], step[1])
    return printed([printed(["step", "pair"], step[1]), ":"], step[2])


def read_paper(text):
    """The paper that is printed in this way."""
    lines = [line.split(" ") for line in text.split("\n")]
    if len(lines[0]) != 2 or lines[0][0] != "paper":
        raise BadPaperText()
    many = read_number(lines[0][1])
    deeds = []
    at = 1
    while at < len(lines) and lines[at][0] == "deed":
        deeds.append(read_numbers_of(lines[at][1:]))
        at += 1
    if len(deeds) != many:
        raise BadPaperText()
    entries = []
    while at < len(lines):
        entry, at = read_entry(lines, at)
        entries.append(entry)
    return Paper(deeds, entries)


def read_number(word):
    """The number of a number word."""
    number = read_whole(word)
    if number is None:
        raise BadPaperText()
    return number


def read_numbers_of(words):
    return tuple([read_number(word) for word in words])


# The functions below read from the line at a place on. They return what they read and the place behind it.


def read_entry(lines, at):
    """The entry that begins here."""
    if lines[at] != ["entry"]:
        raise BadPaperText()
    begin = at + 1
    at = begin
    while at < len(lines) and lines[at][0] != "step":
        at += 1
    if at == len(lines):
        raise BadPaperText()
    try:
        book = read_book("\n".join([" ".join(words) for words in lines[begin:at]]))
    except BadText:
        raise BadPaperText() from None
    step = read_step(lines[at])
    lots = []
    at += 1
    while at < len(lines) and lines[at][0] == "shut":
        couple, at = read_lot(lines, at)
        lots.append(couple)
    return Entry(book, step, tuple(lots)), at


def read_step(words):
    """The step of a line that begins with the word step."""
    word = words[1] if len(words) > 1 else ""
    if word == "first" and len(words) == 3:
        return ("first", read_number(words[2]))
    if word == "block":
        return ("block", read_numbers_of(words[2:]))
    if word != "pair" or ":" not in words:
        raise BadPaperText()
    between = words.index(":")
    return ("pair", read_numbers_of(words[2:between]), read_numbers_of(words[between + 1:]))


def read_lot(lines, at):
    """The couple of a place and its Carries that begins here."""
    if len(lines[at]) != 2:
        raise BadPaperText()
    place = read_number(lines[at][1])
    rows = []
    at += 1
    while at < len(lines) and lines[at][0] == "carry":
        rows.append(tuple([read_carry(word) for word in lines[at][1:]]))
        at += 1
    return (place, Carries(tuple(rows))), at


def read_carry(word):
    """The number of a word that may have a - in front."""
    if word[:1] != "-":
        return read_number(word)
    number = read_number(word[1:])
    if number == 0:
        raise BadPaperText()
    return -number
