"""Ways of scripts, and which inputs go them [15.6 to 15.10]."""

from pressedwords.books import is_sequence, is_side
from pressedwords.errors import NoName, NoWay, TooLong, UnlikeScripts
from pressedwords.fillings import Filling
from pressedwords.sayings import exchanged, exchanged_side
from pressedwords.scripts import courses_of, ends_of
from pressedwords.solving import judge_shut, solve

UNKNOWNS = ("?ra", "?rb", "?rc", "?rd")


class Way:
    """A run with any turns: reads counts its reads, sayings and ends are led along, stop is the number of its stop."""

    def __init__(self, turns, reads, sayings, ends, stop):
        self.turns = turns
        self.reads = reads
        self.sayings = sayings
        self.ends = ends
        self.stop = stop

    def __eq__(self, other):
        return (isinstance(other, Way) and self.turns == other.turns and self.reads == other.reads
                and self.sayings == other.sayings and self.ends == other.ends and self.stop == other.stop)


class Found:
    """A filling that meets the goal with these turns."""

    def __init__(self, turns, filling):
        self.turns = turns
        self.filling = filling

    def __eq__(self, other):
        return isinstance(other, Found) and self.turns == other.turns and self.filling == other.filling


class Never:
    """Papers which show that no goal can be met: a couple (turns, shut) for each."""

    def __init__(self, papers):
        self.papers = papers

    def __eq__(self, other):
        return isinstance(other, Never) and self.papers == other.papers


def ways_of(script):
    """All ways of a script, ascending by their turns."""
    return tuple([way_of(steps) for steps, _ in courses_of(script.statements)])


def way_of(steps):
    """The way with these steps."""
    turns = []
    sayings = []
    table = {}
    reads = 0
    stop = None
    for statement, turn in steps:
        if statement[0] == "read":
            table[statement[1]] = (UNKNOWNS[reads],)
            reads += 1
        elif statement[0] == "put":
            table[statement[1]] = exchanged_side(statement[2], table)
        elif statement[0] == "stop":
            stop = statement[1]
        else:
            saying = exchanged(statement[1], table)
            sayings.append(saying if turn == 1 else ("not", saying))
            turns.append(turn)
    return Way(tuple(turns), reads, tuple(sayings), ends_of(table), stop)


def stop_goals(script, stop):
    """The goals of the ways that end with this stop."""
    return tuple([(way.turns, way.sayings) for way in ways_of(script) if way.stop == stop])


def apart_goals(one, other):
    """The goals of each way of one script and each way of the other that stop unlike."""
    if one.letters != other.letters:
        raise UnlikeScripts()
    others = ways_of(other)
    return tuple([((way.turns, then.turns), way.sayings + then.sayings)
                  for way in ways_of(one) for then in others if way.stop != then.stop])


def meet_goals(goals, letters, *, room=300):
    """A Found for the first goal that can be met, or Never."""
    papers = []
    for turns, sayings in goals:
        told = solve(sayings, letters, room=room)
        if isinstance(told, Filling):
            return Found(as_tuples(turns), told)
        papers.append((as_tuples(turns), told))
    return Never(tuple(papers))


def as_tuples(thing):
    """The turns of a goal, which may be lists, as tuples."""
    return tuple([as_tuples(part) for part in thing]) if is_sequence(thing) else thing


def never_fault(goals, letters, never):
    """What is wrong with a Never for these goals, or None."""
    if len(never.papers) != len(goals):
        return "many"
    for at, (turns, shut) in enumerate(never.papers):
        goal_turns, sayings = goals[at]
        if turns != as_tuples(goal_turns) or judge_shut(sayings, letters, shut) is not None:
            return at
    return None


def input_for(script, turns, *, room=300):
    """A Filling whose inputs go the way with these turns, or a Shut."""
    for way in ways_of(script):
        if is_side(turns) and way.turns == tuple(list(turns)):
            return solve(way.sayings, script.letters, room=room)
    raise NoWay(turns)


def inputs_of(filling, reads, room=1000):
    """The texts of so many inputs."""
    words = [(name, word_in(filling, name)) for name in UNKNOWNS[:reads]]
    for _, word in words:
        length = filling.grammar.word_length(word)
        if length > room:
            raise TooLong(length)
    return tuple([filling.grammar.plain_text(word, room) for _, word in words])


def word_in(filling, name):
    """The word of a name; an input of which nothing is asked is empty."""
    try:
        return filling.word_of(name)
    except NoName:
        return ()


def told_apart(one, other, *, room=300):
    """A Found of inputs for which two scripts stop unlike, or Never."""
    goals = apart_goals(one, other)
    return meet_goals(goals, one.letters, room=room)
