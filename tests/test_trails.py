"""Trails and faults of nets [9.11, 9.12]."""

import unittest

from pressedwords.books import Book, Clash
from pressedwords.errors import NotFilled
from pressedwords.nets import Net, look_over
from pressedwords.nettext import net_text, read_net
from pressedwords.stepping import outcome_of
from pressedwords.steps import told_step
from pressedwords.trails import Trail, net_fault, trail_of
from tests.helpers import caught, check_result, lot_for, root_of

ONE = lot_for([], 2)
AB = lot_for([".*ab.*"], 2)
EMPTY = Book((), (), ())
FILLED = ("bXaab=bYY",)
SHUT = ("bXYab=bbaY",)


def one(*rows):
    return root_of(ONE, *rows)


def net_of(*roots, lot=ONE, **given):
    net = Net(roots, lot, **given)
    net.run(1000)
    return net


class TrailTest(unittest.TestCase):
    def test_trail_is_a_result(self):
        check_result(self, Trail, ["root", "turns"])

    def check_trail(self, net, roots):
        trail = trail_of(net)
        self.assertIs(type(trail.turns), tuple)
        book = roots[trail.root]
        self.assertNotIn(book, [root for root in roots[:trail.root] if isinstance(root, Book)])
        for place, (turn_book, step, guess) in enumerate(trail.turns):
            self.assertEqual(turn_book, book)
            self.assertEqual(step, told_step(book))
            self.assertIn(guess, [known for known, _ in look_over(book, net.lot).outcomes])
            book = outcome_of(guess)
            if place + 1 < len(trail.turns):
                self.assertEqual(trail.turns[place + 1][0], book)
        self.assertEqual(book.rows, ())
        way = net.way_to(net.filled)
        self.assertEqual(len(trail.turns), len(way))
        for (turn_book, _, guess), (number, place) in zip(trail.turns, way):
            self.assertEqual(turn_book, net.books[number])
            self.assertEqual(guess, look_over(turn_book, net.lot).outcomes[place][0])
        return trail

    def test_filled_nets(self):
        for rows in (FILLED, ("aX=Xa",), ("XY=YX",), ("YaY=bXXXY",), ("bXXbb=Yb",)):
            for order in ("first", "last", "least", (2, 1)):
                for backward in (False, True):
                    roots = [one(*rows)]
                    trail = self.check_trail(net_of(*roots, order=order, backward=backward), roots)
                    self.assertEqual(trail.root, 0)
                    self.assertTrue(trail.turns)

    def test_the_least_index_of_equal_roots(self):
        roots = [Clash("front", 0), one(*SHUT), one(*FILLED), one("aX=Xb"), one(*FILLED)]
        self.assertEqual(self.check_trail(net_of(*roots), roots).root, 2)

    def test_the_empty_book_is_a_root(self):
        roots = [one(*SHUT), Clash("back", 1), EMPTY, one(*FILLED), EMPTY]
        net = Net(roots, ONE)
        self.assertEqual(trail_of(net), Trail(2, ()))

    def test_not_filled(self):
        self.assertEqual(caught(NotFilled, trail_of, net_of(one(*SHUT))), ())
        self.assertEqual(caught(NotFilled, trail_of, Net([one(*FILLED)], ONE)), ())
        self.assertEqual(caught(NotFilled, trail_of, Net([], ONE)), ())

    def test_a_forgotten_book_on_the_way(self):
        # The root is forgotten behind its look, so it is open when the net is filled.
        roots = [one(*FILLED)]
        net = Net(roots, ONE)
        net.advance()
        net.forget(0)
        net.look_at(1)
        for number in range(2, 100):
            if net.ended:
                break
            if number in net.open_books:
                net.look_at(number)
        self.assertIn(0, net.open_books)
        self.assertEqual(net.verdict, "filled")
        self.check_trail(net, roots)
        self.assertIsNone(net_fault(net))

    def test_several_states(self):
        ends = ((0, (2,)),) + ((0, (0, 1, 2)),) * 2
        roots = [root_of(AB, "abX=Xab", ends=ends)]
        self.check_trail(net_of(*roots, lot=AB), roots)


class NoFaultTest(unittest.TestCase):
    def test_nets_made_by_their_methods(self):
        for roots in ([], [EMPTY], [one(*FILLED)], [one(*SHUT), Clash("front", 0), one(*FILLED)], [one("aX=Xb")]):
            for order in ("first", "last", (3, 0, 1)):
                net = Net(roots, ONE, order, known=[one("abX=Xb"), one(*SHUT)])
                self.assertIsNone(net_fault(net))
                while not net.ended:
                    net.advance()
                    if net.looks % 3 == 0 and not net.ended:
                        net.forget(net.looked[0])
                self.assertIsNone(net_fault(net))


    def test_a_known_empty_book_is_not_borrowed(self):
        self.assertIsNone(net_fault(Net([EMPTY, one(*SHUT)], ONE, known=[EMPTY])))


class FaultTest(unittest.TestCase):
    """Faults of nets that were read from texts with lines put in the place of others."""

    NET = net_of(one(*SHUT), one("abX=Xb"), known=[one("abX=Xb")])

    def read(self, *changes, net=NET, known=None):
        text = net_text(net)
        for old, new in changes:
            self.assertEqual(text.count(old), 1, old)
            text = text.replace(old, new)
        return read_net(text, net.lot, net.known if known is None else known)

    def line(self, start, net=NET):
        line, = [line for line in net_text(net).split("\n") if line.startswith(start)]
        return "\n" + line + "\n"

    def look(self, number, net=NET):
        words = self.line(f"look {number} ", net).split()
        return int(words[2]), [(int(place), int(book)) for place, book in zip(words[3::2], words[4::2])]

    def put_look(self, number, many, couples, net=NET):
        words = ["look", number, many] + [part for couple in couples for part in couple]
        return (self.line(f"look {number} ", net), "\n" + " ".join(map(str, words)) + "\n")

    def test_the_printed_net_has_no_fault(self):
        self.assertIsNone(net_fault(self.read()))
        self.assertEqual(self.NET.borrowed, (1,))

    def alien_book(self, number, lines):
        """A change that puts other lines in the place of a book's."""
        text = net_text(self.NET)
        begin = text.index(f"\nbook {number} ") + 1
        begin = text.index("\n", begin)
        end = text.find("\nbook ", begin)
        end = text.index("\nroots") if end < 0 else end
        return (text[begin:end], "\n" + lines)

    def test_book_that_is_not_settled(self):
        for lines in ("states 1\nletter 0\nunknown 0 : 0\nrow 0 ?0 = 0 0",
                      "states 1\nletter 0\nletter 0\nunknown 0 : 0\nrow 1 ?0 = ?0 0",
                      "states 1\nletter 0\nunknown 0 :\nrow 0 ?0 = ?0 0",
                      "states 1\nletter 0\nletter 0\nunknown 0 : 0\nrow 0 ?0 = 1 ?0"):
            net = self.read(self.alien_book(26, lines))
            self.assertEqual(net_fault(net), ("book", 26), lines)

    def test_book_with_an_alien_deed(self):
        root = root_of(AB, "abX=Xab")
        net = Net([root, Book([((0, -1), (-1, 0))], ((1, 0, 2),), ((0, (0, 1, 2)),), 3)], AB)
        self.assertEqual(net_fault(net), ("book", 1))
        net = Net([Book([((0, -1), (-1, 0))], ((1, 0, 2),), ((0, (0, 1, 2)),), 3), root], AB)
        net.look_at(1)
        self.assertEqual(net_fault(net), ("book", 0))

    def test_known(self):
        self.assertEqual(net_fault(self.read(("\nborrowed 1\n", "\nborrowed\n"))), ("known", 1))
        self.assertEqual(net_fault(self.read(known=())), ("known", 1))
        self.assertEqual(net_fault(self.read(known=[one("abX=Xb"), self.NET.books[5], self.NET.books[3]])),
                         ("known", 3))
        looked = self.line("looked")
        without = "\n" + " ".join(word for word in looked.split() if word != "7") + "\n"
        net = self.read(("\nborrowed 1\n", "\nborrowed 1 7\n"), (looked, without),
                        (self.line("look 7 "), "\n"))
        self.assertEqual(net_fault(net), ("known", 7))

    def test_look(self):
        number = next(number for number in self.NET.looked if len(self.look(number)[1]) > 1 and number > 2)
        many, couples = self.look(number)
        (first, book), (second, other) = couples[:2]
        self.assertEqual(net_fault(self.read(self.put_look(number, many, couples[1:]))), ("look", number, first))
        wrong = [(first, 0), (second, other)] + couples[2:]
        self.assertEqual(net_fault(self.read(self.put_look(number, many, wrong))), ("look", number, first))
        wrong = [(first, book), (second, 0)] + couples[2:]
        self.assertEqual(net_fault(self.read(self.put_look(number, many, wrong))), ("look", number, second))
        empty_place = next(place for place in range(many) if place not in dict(couples))
        wrong = sorted(couples + [(empty_place, 0)])
        self.assertEqual(net_fault(self.read(self.put_look(number, many, wrong))), ("look", number, empty_place))

    def test_look_with_a_missing_outcome_or_one_too_many(self):
        number = self.NET.looked[3]
        many, couples = self.look(number)
        self.assertEqual(net_fault(self.read(self.put_look(number, many + 1, couples))), ("look", number, many))
        self.assertEqual(net_fault(self.read(self.put_look(number, 10 ** 9 - 1, couples))), ("look", number, many))
        extra = couples + [(many, 0)]
        self.assertEqual(net_fault(self.read(self.put_look(number, many + 1, extra))), ("look", number, many))
        kept = [couple for couple in couples if couple[0] < many - 1]
        self.assertEqual(net_fault(self.read(self.put_look(number, many - 1, kept))), ("look", number, many - 1))
        self.assertEqual(net_fault(self.read(self.put_look(number, 0, []))), ("look", number, 0))

    def test_way(self):
        way = self.NET.way_to(20)[-1]
        line = self.line("book 20 ")
        for ahead, place in ((way[0], way[1] + 1), (way[0], 10 ** 9 - 1), (1, 0), (19, way[1])):
            told = look_over(self.NET.books[ahead], ONE).outcomes
            right = place < len(told) and told[place][1] == self.NET.books[20]
            net = self.read((line, f"\nbook 20 from {ahead} {place}\n"))
            self.assertEqual(net_fault(net), None if right else ("way", 20))
        self.assertIsNone(net_fault(self.read()))

    def test_way_from_the_empty_book(self):
        net = Net([EMPTY, one(*FILLED)], ONE)
        text = net_text(net).replace("book 1 root", "book 1 from 0 0").replace("roots 0 1", "roots 0")
        self.assertEqual(net_fault(read_net(text, ONE)), ("way", 1))

    def test_another_right_way_is_no_fault(self):
        net = self.NET
        ways = {(net.outcomes_at(ahead)[place][1], ahead, place) for ahead in net.looked
                for place in range(len(net.outcomes_at(ahead))) if isinstance(net.outcomes_at(ahead)[place][1], int)}
        other = next((told, ahead, place) for told, ahead, place in sorted(ways)
                     if told > 1 and ahead < told and (ahead, place) != net.way_to(told)[-1])
        told, ahead, place = other
        self.assertIsNone(net_fault(self.read((self.line(f"book {told} "), f"\nbook {told} from {ahead} {place}\n"))))

    def test_one_kind_ahead_of_the_next(self):
        book = self.alien_book(26, "states 1\nletter 0\nunknown 0 : 0\nrow 0 ?0 = 0 0")
        borrowed = ("\nborrowed 1\n", "\nborrowed\n")
        look = self.put_look(5, 0, [])
        way = (self.line("book 2 "), "\nbook 2 from 0 999\n")
        self.assertEqual(net_fault(self.read(way)), ("way", 2))
        self.assertEqual(net_fault(self.read(way, look)), ("look", 5, 0))
        self.assertEqual(net_fault(self.read(way, look, borrowed)), ("known", 1))
        self.assertEqual(net_fault(self.read(way, look, borrowed, book)), ("book", 26))
        self.assertEqual(net_fault(self.read(self.put_look(3, 0, []), look)), ("look", 3, 0))
        self.assertEqual(net_fault(self.read(way, (self.line("book 9 "), "\nbook 9 from 0 999\n"))), ("way", 2))

    def test_a_forgotten_book_is_no_fault(self):
        net = net_of(one(*SHUT))
        net.forget(5)
        self.assertIsNone(net_fault(net))
        self.assertIsNone(net_fault(read_net(net_text(net), ONE)))


if __name__ == "__main__":
    unittest.main()
