"""Deeds and desks as texts [16.10, 16.11]."""

from pressedwords.booktext import read_whole
from pressedwords.desk import Desk, engine_text
from pressedwords.deskdeeds import check_deed
from pressedwords.errors import BadDeed, BadScript, BadText
from pressedwords.sayings import check_letters
from pressedwords.sayingtext import read_saying, read_sayings, saying_text, sayings_text
from pressedwords.scripts import block_words, checked_block, read_script, read_statements, script_text

ALL_LETTERS = 3
NO_LINE = "-"


def print_deeds(deeds):
    """The deeds as lines."""
    return "\n".join([" ".join(deed_words(check_deed(deed))) for deed in deeds])


def deed_words(deed):
    """The words of a checked deed; some of them have blanks within."""
    word = deed[0]
    if word in ("say", "follows"):
        return [word, saying_text(deed[1])]
    if word == "script":
        return [word] + edit_words(deed[1])
    if word == "same":
        return [word] + statement_words(deed[1])
    if word == "hands":
        return [word, str(deed[1])] + number_words(deed[2])
    if word == "way":
        return [word] + number_words(deed[1])
    if word == "stops" and deed[1] is None:
        return [word, "none"]
    return [word] + number_words(deed[1:])


def edit_words(edit):
    if edit[0] == "new":
        return [edit[0]] + statement_words(edit[1])
    words = [edit[0]] + number_words(edit[1])
    return words + [":"] + statement_words((edit[2],)) if edit[0] == "put in" else words


def number_words(numbers):
    return [str(number) for number in numbers]


def statement_words(statements):
    return block_words(checked_statements(statements, ALL_LETTERS))


def checked_statements(statements, letters):
    """The statements as tuples, whose forms are right; their names need not be set."""
    checked, _ = checked_block(statements, (), letters, None)
    return checked


def read_deeds(text, letters):
    """The deeds that are printed in this way, as a tuple."""
    check_letters(letters)
    if text == "":
        return ()
    deeds = []
    for number, line in enumerate(text.split("\n")):
        try:
            deed = check_deed(read_deed(line.split(" "), letters))
        except (BadDeed, BadScript, BadText):
            raise BadText(number, 0) from None
        if print_deeds((deed,)) != line:
            raise BadText(number, 0)
        deeds.append(deed)
    return tuple(deeds)


def read_deed(words, letters):
    """The deed that these words tell, with its sayings and statements checked."""
    word = words[0]
    rest = words[1:]
    if word in ("say", "follows"):
        return (word, read_saying(" ".join(rest), letters))
    if word == "script":
        return (word, read_edit(rest, letters))
    if word == "same":
        return (word, read_checked(rest, letters))
    if words == ["go", "on"]:
        return ("go on",)
    if word == "hands":
        numbers = read_numbers(rest)
        return (word,) + tuple(numbers[:1]) + (numbers[1:],)
    if word == "way":
        return (word, read_numbers(rest))
    if word == "stops" and rest == ["none"]:
        return (word, None)
    return (word,) + tuple(read_numbers(rest))


def read_edit(words, letters):
    """The edit of a script that these words tell."""
    if words[:1] == ["new"]:
        return ("new", read_checked(words[1:], letters))
    if words[:1] == ["turn"]:
        return ("turn", read_numbers(words[1:]))
    if words[:2] == ["take", "out"]:
        return ("take out", read_numbers(words[2:]))
    if words[:2] != ["put", "in"] or ":" not in words:
        raise BadText(0, 0)
    at = words.index(":")
    statements = read_checked(words[at + 1:], letters)
    if len(statements) != 1:
        raise BadText(0, 0)
    return ("put in", read_numbers(words[2:at]), statements[0])


def read_checked(words, letters):
    return checked_statements(read_statements(words, letters), letters)


def read_numbers(words):
    """The numbers of number words."""
    numbers = [read_whole(word) for word in words]
    if None in numbers:
        raise BadText(0, 0)
    return numbers


def put_away(desk):
    """The desk as a text, without its log and what it knows."""
    order = [desk.order] if isinstance(desk.order, str) else number_words(desk.order)
    head = ["desk", str(desk.letters), str(desk.room), str(len(desk.said))] + order
    said = sayings_text(desk.said).split("\n") if desk.said else []
    script = NO_LINE if desk.script is None else script_text(desk.script)
    engine = desk.saved if desk.going is None else engine_text(desk.going)
    return "\n".join([" ".join(head)] + said + [script, NO_LINE if engine is None else engine])


def taken_up(text):
    """The desk that was put away as this text."""
    lines = text.split("\n")
    words = lines[0].split(" ")
    letters, room, many = read_numbers(words[1:4])
    order = words[4] if read_whole(words[4]) is None else read_numbers(words[4:])
    desk = Desk(letters, room, order)
    desk.said = read_sayings("\n".join(lines[1:1 + many]), letters)
    if lines[1 + many] != NO_LINE:
        desk.script = read_script(lines[1 + many])
    engine = "\n".join(lines[2 + many:])
    if engine != NO_LINE:
        desk.saved = engine
    return desk
