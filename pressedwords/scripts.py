"""Scripts: programs without loops that read texts [15.1 to 15.5]."""

from pressedwords.books import is_sequence, is_side, is_whole
from pressedwords.booktext import read_whole
from pressedwords.errors import BadExpression, BadLetters, BadSaying, BadScript, BadText, NoIf, ShortInputs
from pressedwords.sayings import check_letters, check_saying, check_side, is_name, names_of, saying_holds, side_text
from pressedwords.sayingtext import behind_word, printed_side, read_saying_at, read_side, saying_text, word_stands

ITEMS = {"read": 2, "put": 3, "stop": 2, "if": 4}
GREATEST_STOP = 99
DEEPEST_SAYING = 10
DEEPEST_IF = 4
MOST_STATEMENTS = 24
MOST_WAYS = 16
MOST_READS = 4
LONGEST_SIDE = 12


class Script:
    """A block of statements over so many outer letters."""

    def __init__(self, statements, letters=2):
        self.letters = check_letters(letters)
        self.statements, _ = checked_block(statements, (), letters, ())
        if len(all_statements(self.statements)) > MOST_STATEMENTS:
            raise BadScript("many", ())
        if sum(count_ways(self.statements, 1)) > MOST_WAYS:
            raise BadScript("ways", ())
        courses = [steps for steps, _ in courses_of(self.statements)]
        if any([reads_on(steps) > MOST_READS for steps in courses]):
            raise BadScript("reads", ())
        if any([widest_on(steps) > LONGEST_SIDE for steps in courses]):
            raise BadScript("wide", ())

    def __eq__(self, other):
        return isinstance(other, Script) and self.statements == other.statements and self.letters == other.letters

    def __len__(self):
        return len(all_statements(self.statements))

    def __iter__(self):
        return iter(self.statements)


class Run:
    """What a run does: its turns, how many inputs it uses, the texts that are set at the end, and its stop."""

    def __init__(self, turns, used, ends, stop):
        self.turns = turns
        self.used = used
        self.ends = ends
        self.stop = stop

    def __eq__(self, other):
        return (isinstance(other, Run) and self.turns == other.turns and self.used == other.used
                and self.ends == other.ends and self.stop == other.stop)


def all_statements(block):
    """All statements of a block, those in its blocks too."""
    found = []
    for statement in block:
        found.append(statement)
        if statement[0] == "if":
            found.extend(all_statements(statement[2]))
            found.extend(all_statements(statement[3]))
    return found


# The functions that check take at their end the names that are set on every way that comes to a place, or None where
# no way comes; there no name counts as unset. They return these names for the place behind what they check.


def checked_block(block, road, letters, names):
    """The block at a road as tuples."""
    if not is_sequence(block):
        raise BadScript("block", road)
    checked = []
    for at, thing in enumerate(block):
        statement, names = checked_statement(thing, road + (at,), letters, names)
        checked.append(statement)
    return tuple(checked), names


def checked_statement(thing, road, letters, names):
    """The statement at a road as tuples."""
    if not has_items(thing):
        raise BadScript("statement", road)
    word = thing[0]
    if word == "if":
        return checked_if(thing, road, letters, names)
    if word == "stop":
        if not is_whole(thing[1]) or not 0 <= thing[1] <= GREATEST_STOP:
            raise BadScript("number", road)
        return ("stop", thing[1]), None
    name = thing[1]
    if not is_name(name):
        raise BadScript("name", road)
    statement = ("read", name)
    if word == "put":
        statement = ("put", name, checked_side(thing[2], road, letters))
        ask_set([item for item in statement[2] if item[0] == "?"], road, names)
    return statement, None if names is None else names + (name,)


def checked_if(thing, road, letters, names):
    """The same of an if."""
    saying = checked_saying(thing[1], road, letters)
    ask_set(names_of(saying), road, names)
    # The road of an if has a number for its place, and two for each if around it.
    if len(road) > 2 * DEEPEST_IF:
        raise BadScript("deep", road)
    first, one = checked_block(thing[2], road + (0,), letters, names)
    second, other = checked_block(thing[3], road + (1,), letters, names)
    if one is None or other is None:
        names = other if one is None else one
    else:
        names = tuple([name for name in one if name in other])
    return ("if", saying, first, second), names


def has_items(thing):
    """Whether this begins with one of the four words and has as many items as the word asks for."""
    if not is_sequence(thing) or len(thing) == 0 or not isinstance(thing[0], str):
        return False
    return thing[0] in ITEMS and len(thing) == ITEMS[thing[0]]


def checked_side(thing, road, letters):
    try:
        return check_side(thing, letters)
    except BadSaying:
        raise BadScript("side", road) from None


def checked_saying(thing, road, letters):
    try:
        saying = check_saying(thing, letters)
    except (BadSaying, BadExpression):
        raise BadScript("saying", road) from None
    if depth_of(saying) > DEEPEST_SAYING:
        raise BadScript("saying", road)
    return saying


def depth_of(saying):
    """How deep a saying nests."""
    if saying[0] in ("alike", "in"):
        return 1
    return 1 + max([depth_of(part) for part in saying[1:]])


def ask_set(named, road, names):
    """Asks that all of some names are set."""
    if names is not None and not all([name in names for name in named]):
        raise BadScript("unset", road)


def count_ways(block, many):
    """Of so many ways to a block, how many lead on behind it and how many stop, each with all that come of it."""
    stopped = 0
    for statement in block:
        if statement[0] == "stop":
            stopped += many
            many = 0
        elif statement[0] == "if":
            first, stopped_first = count_ways(statement[2], many)
            second, stopped_second = count_ways(statement[3], many)
            many = first + second
            stopped += stopped_first + stopped_second
    return many, stopped


def courses_of(block):
    """The ways through a block, ascending by turns: couples of the steps and whether the way stops.

    A step is a couple of a statement and the turn there, which is None unless it is an if.
    """
    courses = [((), False)]
    for statement in block:
        grown = []
        for steps, stopped in courses:
            if stopped:
                grown.append((steps, stopped))
            else:
                grown.extend([(steps + more, over) for more, over in courses_over(statement)])
        courses = list(grown)
    return courses


def courses_over(statement):
    """The same through one statement."""
    if statement[0] != "if":
        return [(((statement, None),), statement[0] == "stop")]
    courses = []
    for turn, block in ((0, statement[3]), (1, statement[2])):
        courses.extend([(((statement, turn),) + steps, stopped) for steps, stopped in courses_of(block)])
    return courses


def reads_on(steps):
    """How many texts a way reads."""
    return len([statement for statement, _ in steps if statement[0] == "read"])


def widest_on(steps):
    """The most items that a side on a way has when it is led along; behind one that is too wide none is counted."""
    widths = {}
    widest = 0
    for statement, _ in steps:
        if statement[0] == "read":
            widths[statement[1]] = 1
        elif statement[0] == "put":
            widths[statement[1]] = width_of(statement[2], widths)
            widest = max(widest, widths[statement[1]])
        elif statement[0] == "if":
            widest = max([widest] + [width_of(side, widths) for side in sides_in(statement[1])])
        if widest > LONGEST_SIDE:
            return widest
    return widest


def width_of(side, widths):
    return sum([widths[item] if item[0] == "?" else 1 for item in side])


def sides_in(saying):
    """All sides of a saying."""
    if saying[0] == "alike":
        return [saying[1], saying[2]]
    if saying[0] == "in":
        return [saying[1]]
    return [side for part in saying[1:] for side in sides_in(part)]


def run_script(script, inputs):
    """The Run of a script on these inputs."""
    texts = {}
    used = 0
    turns = []
    waiting = list(script.statements)[::-1]
    while waiting:
        statement = waiting.pop()
        if statement[0] == "stop":
            return Run(tuple(turns), used, ends_of(texts), statement[1])
        if statement[0] == "read":
            if used == len(inputs):
                raise ShortInputs(used)
            texts[statement[1]] = inputs[used]
            used += 1
        elif statement[0] == "put":
            texts[statement[1]] = side_text(statement[2], texts)
        else:
            holds = saying_holds(statement[1], texts)
            turns.append(1 if holds else 0)
            waiting.extend(list(statement[2] if holds else statement[3])[::-1])
    return Run(tuple(turns), used, ends_of(texts), None)


def ends_of(table):
    """The couples of a dict, ascending by name."""
    return tuple([(name, table[name]) for name in sorted(table)])


def script_text(script):
    """The script as one line of words."""
    return " ".join(["letters " + str(script.letters) + " :"] + block_words(script.statements))


def block_words(block):
    """The printed statements of a block, with the words between them."""
    words = []
    for statement in block:
        words.extend([",", statement_text(statement)])
    return words[1:]


def statement_text(statement):
    """The statement as a line of words."""
    if statement[0] == "read":
        return "read " + statement[1]
    if statement[0] == "put":
        return "put " + statement[1] + " " + printed_side(statement[2])
    if statement[0] == "stop":
        return "stop " + str(statement[1])
    first = ["if", saying_text(statement[1]), "{"] + block_words(statement[2])
    return " ".join(first + ["} else {"] + block_words(statement[3]) + ["}"])


def read_script(text):
    """The script that has just this text."""
    words = text.split(" ")
    letters = read_whole(words[1]) if len(words) > 1 else None
    if words[0] != "letters" or not word_stands(words, 2, ":"):
        raise BadText(0, 0)
    try:
        check_letters(letters)
        script = Script(read_statements(words[3:], letters), letters)
    except (BadLetters, BadText, BadScript):
        raise BadText(0, 0) from None
    # An expression may be read with needless brackets, which no script prints.
    if script_text(script) != text:
        raise BadText(0, 0)
    return script


def read_statements(words, letters):
    """The statements that these words tell."""
    statements, at = read_block(words, 0, 0, letters)
    if at < len(words):
        raise BadText(0, at)
    return statements


# The functions below read from the word at a place on. They return what they read and the place behind it. Depth is
# how many ifs are around.


def read_block(words, at, depth, letters):
    """The statements up to the end of a block."""
    if at == len(words) or words[at] == "}":
        return (), at
    statement, at = read_statement(words, at, depth, letters)
    statements = [statement]
    while word_stands(words, at, ","):
        statement, at = read_statement(words, at + 1, depth, letters)
        statements.append(statement)
    return tuple(statements), at


def read_statement(words, at, depth, letters):
    """The statement that begins here."""
    if word_stands(words, at, "if"):
        return read_if(words, at + 1, depth, letters)
    if at + 1 >= len(words) or words[at] not in ITEMS:
        raise BadText(0, at)
    if words[at] == "stop":
        return ("stop", read_whole(words[at + 1])), at + 2
    if words[at] == "read":
        return ("read", words[at + 1]), at + 2
    side, behind = read_side(words, at + 2, letters)
    return ("put", words[at + 1], side), behind


def read_if(words, at, depth, letters):
    """The if whose saying begins here."""
    if depth == DEEPEST_IF:
        raise BadText(0, at)
    saying, at = read_saying_at(words, at, 1, letters)
    first, at = read_block(words, behind_word(words, at, "{"), depth + 1, letters)
    at = behind_word(words, behind_word(words, at, "}"), "else")
    second, at = read_block(words, behind_word(words, at, "{"), depth + 1, letters)
    return ("if", saying, first, second), behind_word(words, at, "}")


def block_around(statements, road):
    """The block in which the last number of a road counts, or None if there is none."""
    if not is_side(road) or len(road) & 1 == 0:
        return None
    block = statements
    for place in range(0, len(road) - 1, 2):
        at, turn = road[place:place + 2]
        if not 0 <= at < len(block) or block[at][0] != "if" or turn not in (0, 1):
            return None
        block = block[at][2 + turn]
    return block


def with_block(statements, road, block):
    """The statements with this one for the block in which the last number of a road counts."""
    if len(road) == 1:
        return block
    at, turn = road[:2]
    changed = list(statements[at])
    changed[2 + turn] = with_block(changed[2 + turn], road[2:], block)
    return statements[:at] + (tuple(changed),) + statements[at + 1:]


def turned_at(script, road):
    """The script in which the if at a road has a denied saying and its blocks exchanged."""
    block = block_around(script.statements, road)
    if block is None or not 0 <= road[-1] < len(block) or block[road[-1]][0] != "if":
        raise NoIf(road)
    at = road[-1]
    _, saying, first, second = block[at]
    turned = block[:at] + (("if", ("not", saying), second, first),) + block[at + 1:]
    return Script(with_block(script.statements, road, turned), script.letters)
