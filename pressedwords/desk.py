"""A desk, which keeps sayings and a script, solves bit by bit and remembers closed lists [16.2 to 16.9]."""

from pressedwords.booktext import read_whole
from pressedwords.cases import cases_of, lot_for
from pressedwords.deskdeeds import check_deed
from pressedwords.errors import (FullDesk, IsCut, NoBack, NoEngine, NoPaper, NoScript, NoStatement, NotCut, PressError,
                                 TooFull)
from pressedwords.hands import Hands
from pressedwords.nets import check_order, check_room
from pressedwords.nettext import net_text, read_net
from pressedwords.papers import Shut, deeds_in, join_papers
from pressedwords.papertext import paper_text, read_paper
from pressedwords.sayings import check_letters, check_saying
from pressedwords.sayingtext import read_sayings, sayings_text
from pressedwords.scripts import Script, block_around, turned_at, with_block
from pressedwords.solving import Solving, follows
from pressedwords.ways import input_for, meet_goals, stop_goals, told_apart, ways_of

MOST_SAID = 8


class Trial:
    """What deeds told that were tried, and the number of the deed that was refused, or None."""

    def __init__(self, tolds, refused):
        self.tolds = tolds
        self.refused = refused

    def __eq__(self, other):
        return isinstance(other, Trial) and self.tolds == other.tolds and self.refused == other.refused


class Desk:
    """A row of sayings, the engine that solves them, known papers, a script, and a log of the deeds done."""

    def __init__(self, letters=2, room=300, order="first"):
        self.letters = check_letters(letters)
        self.room = check_room(room)
        self.order = check_order(order)
        self.said = ()
        self.script = None
        self.known = ()
        self.going = None
        self.saved = None
        self.log = ()

    def __eq__(self, other):
        return (isinstance(other, Desk) and self.letters == other.letters and self.room == other.room
                and self.order == other.order and self.said == other.said and self.script == other.script
                and self.known == other.known and self.saved == other.saved
                and engine_text(self.going) == engine_text(other.going))

    def __len__(self):
        return len(self.log)

    def __iter__(self):
        return iter(self.log)

    def do_deed(self, deed):
        """Does a deed, puts it into the log and returns what it tells; a deed that raises an error changes nothing."""
        checked = check_deed(deed)
        done, told = self.done_deed(checked)
        self.log = self.log + ((done, told),)
        return told

    def done_deed(self, deed):
        """Does a deed; tells the deed with its saying or statements checked, and what the deed tells."""
        word = deed[0]
        if word == "say":
            saying = check_saying(deed[1], self.letters)
            return (word, saying), self.say(saying)
        if word == "follows":
            told = follows(self.said, deed[1], self.letters, self.order, room=self.room)
            return (word, check_saying(deed[1], self.letters)), told
        if word == "script":
            script, edit = self.edited(deed[1])
            many = len(ways_of(script))
            self.script = script
            return (word, edit), many
        if word == "same":
            script = self.own_script()
            other = Script(deed[1], self.letters)
            return (word, other.statements), told_apart(script, other, room=self.room)
        return deed, self.plain_deed(deed)

    def plain_deed(self, deed):
        """Does a deed without sayings and statements."""
        word = deed[0]
        if word == "back":
            return self.take_back()
        if word == "solve":
            return self.solve_on(deed[1])
        if word == "cut":
            return self.cut_off()
        if word == "go on":
            return self.go_on()
        if word == "forget":
            return self.forget_paper(deed[1])
        if word == "hands":
            return self.work_by_hands(deed[1], deed[2])
        script = self.own_script()
        if word == "way":
            return input_for(script, deed[1], room=self.room)
        return meet_goals(stop_goals(script, deed[1]), self.letters, room=self.room)

    def say(self, saying):
        if len(self.said) == MOST_SAID:
            raise FullDesk()
        self.said = self.said + (saying,)
        self.drop_engine()
        return len(self.said)

    def take_back(self):
        if not self.said:
            raise NoBack()
        saying = self.said[-1]
        self.said = self.said[:-1]
        self.drop_engine()
        return saying

    def drop_engine(self):
        self.going = None
        self.saved = None

    def paper_for(self, deeds):
        """The known paper of these deeds, or None."""
        for paper in self.known:
            if paper.deeds == deeds:
                return paper
        return None

    def keep(self, told):
        """Keeps the paper of a Shut among the known ones."""
        if not isinstance(told, Shut):
            return
        ahead = self.paper_for(told.paper.deeds)
        if ahead is None:
            self.known = self.known + (told.paper,)
        else:
            joined = join_papers(ahead, told.paper)
            self.known = tuple([joined if paper.deeds == ahead.deeds else paper for paper in self.known])

    def begun(self):
        """A Solving of what is said, with the known paper."""
        known = None
        if self.known:
            # The errors of the cases come ahead of those of the lot.
            cases_of(self.said, self.letters)
            _, lot = lot_for(self.said, self.letters)
            known = self.paper_for(deeds_in(lot))
        return Solving(self.said, self.letters, self.order, room=self.room, known=known)

    def solve_on(self, steps):
        if self.saved is not None:
            raise IsCut()
        solving = self.begun() if self.going is None else self.going
        many = 0
        while many < steps and not solving.ended:
            try:
                solving.advance()
            except TooFull:
                if many == 0:
                    raise
                break
            many += 1
        self.going = solving
        self.keep(solving.told)
        return (many, solving.told)

    def cut_off(self):
        if self.saved is not None:
            raise IsCut()
        if self.going is None:
            raise NoEngine()
        many = len(self.going.net)
        self.saved = engine_text(self.going)
        self.going = None
        return many

    def go_on(self):
        if self.saved is None:
            raise NotCut()
        self.going = engine_from(self.saved, self.letters, self.order, self.room)
        self.saved = None
        return len(self.going.net)

    def forget_paper(self, at):
        if at >= len(self.known):
            raise NoPaper(at)
        many = len(self.known[at])
        self.known = self.known[:at] + self.known[at + 1:]
        self.drop_engine()
        return many

    def work_by_hands(self, many, picks):
        solving = self.begun()
        hands = Hands(solving.net, many)
        late = []
        for pick in picks:
            if not solving.net.ended:
                late.extend(late_reports(hands, pick % many, pick // many % 4))
        for report in late:
            hands.deliver(report)
        solving.refresh()
        while not solving.ended:
            solving.advance()
        self.keep(solving.told)
        return solving.told

    def own_script(self):
        if self.script is None:
            raise NoScript()
        return self.script

    def edited(self, edit):
        """The script that an edit makes, and the edit with what it puts in checked."""
        if edit[0] == "new":
            script = Script(edit[1], self.letters)
            return script, ("new", script.statements)
        script = self.own_script()
        road = edit[1]
        if edit[0] == "turn":
            return turned_at(script, road), edit
        block = block_around(script.statements, road)
        at = road[-1]
        if block is None or at > len(block) or (edit[0] == "take out" and at == len(block)):
            raise NoStatement(road)
        if edit[0] == "take out":
            return Script(with_block(script.statements, road, block[:at] + block[at + 1:]), self.letters), edit
        changed = Script(with_block(script.statements, road, block[:at] + (edit[2],) + block[at:]), self.letters)
        return changed, ("put in", road, block_around(changed.statements, road)[at])

    def trial_deeds(self, deeds):
        """What the deeds tell one after another until one is refused; the desk stays as it is."""
        tried = self.copied()
        tolds = []
        for deed in deeds:
            try:
                tolds.append(tried.do_deed(deed))
            except PressError:
                return Trial(tuple(tolds), len(tolds))
        return Trial(tuple(tolds), None)

    def copied(self):
        """An equal desk without a log, with an engine of its own."""
        other = Desk(self.letters, self.room, self.order)
        other.said = self.said
        other.script = self.script
        other.known = self.known
        other.saved = self.saved
        if self.going is not None:
            other.going = engine_from(engine_text(self.going), self.letters, self.order, self.room)
        return other


def late_reports(hands, hand, act):
    """Lets a hand do an act if it can; the reports that are to be delivered later."""
    if act == 0:
        if hands.holds(hand) is None:
            hands.take(hand)
    elif hands.holds(hand) is not None:
        if act == 2:
            hands.drop(hand)
        else:
            report = hands.write(hand)
            if act == 3:
                return [report]
            hands.deliver(report)
    return []


def engine_text(solving):
    """The text of an engine: its sayings, its known paper and its net; None for no engine."""
    if solving is None:
        return None
    said = sayings_text(solving.sayings).split("\n") if solving.sayings else []
    known = [] if solving.known is None else paper_text(solving.known).split("\n")
    head = "engine " + str(len(said)) + " " + str(len(known))
    return "\n".join([head] + said + known + [net_text(solving.net)])


def engine_from(text, letters, order, room):
    """The Solving that stands where the one of this text stood."""
    lines = text.split("\n")
    said, many = [read_whole(word) for word in lines[0].split(" ")[1:]]
    behind = 1 + said + many
    sayings = read_sayings("\n".join(lines[1:1 + said]), letters)
    known = read_paper("\n".join(lines[1 + said:behind])) if many > 0 else None
    solving = Solving(sayings, letters, order, room=room, known=known)
    solving.net = read_net("\n".join(lines[behind:]), solving.lot, solving.net.known)
    solving.refresh()
    return solving
